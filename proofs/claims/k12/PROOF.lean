import PyProof.Rows.All
import Wide.All
import OpenK.AllK
import Wide.FinOn
import HandS.ForExc
import HandS.ForMost
import HandS.IsInst
import HandS.Wide
import HandS.Walk
import HandS.TupAny
import HandS.Defaults
import HandS.SlotsOwn
import HandS.Codes
import HandS.RaiseMore
import PyProof.InstEq
import HandS.Set
import HandS.More
import HandS.SetTxt0
import HandS.SetFor
import PyProof.Rows.SortShellAny
import HandS.Iter
import KE.GoesEnumKw
import KE.GoesMore
import PyProof.Draws
import KE.KDictWalk
import HandS.Dict
import HandS.Small
import PyProof.ListRange
import PyProof.CollectWalk
import PyProof.TupleCall
import KE.KDictList
import KE.KEqDict
import HandS.Base
import HandS.Call
import HandS.List
import PyProof.TupleOfSeq
import HandS.DictComp
import HandS.Conv
import HandS.Flow
import HandS.Words
import HandS.Deep
import HandS.MakeKwOnly
import PyProof.P3In
import KE.KeyNested
import KE.KDictDisplayH
import PyProof.Rows.TupDisplay
import HandS.TupLen
import PyProof.DictDisplay
import HandS.WordsDict
import HandS.ExcInit
import HandS.ExcValue
import HandS.ExcIs
import HandS.ExcField
import HandS.ExcOwn
import HandS.ClsMeth
import HandS.Strs
import HandS.Style
import HandS.DeepEq
import HandS.Finally
import HandS.ListItems
import PySem.Challenge.RW_midfall_k12_plain_without_calls
set_option Elab.async false
set_option maxRecDepth 100000
/-! Heaps with a source of draws; calls by one fact; texts that are names. -/
namespace Mf
open PySem L2

/-! ### heaps -/
/-- all that was tracked but what stands at a is as it was -/
def Kp (a : Addr) (H H' : Hp) : Prop := ∀ b o, b ≠ a → H b = some o → H' b = some o
theorem Kp.refl {a : Addr} {H : Hp} : Kp a H H := fun _ _ _ h => h
theorem Kp.trans {a : Addr} {H H1 H2 : Hp} (x : Kp a H H1) (y : Kp a H1 H2) : Kp a H H2 := fun b o n h => y b o n (x b o n h)
theorem Kp.same {a : Addr} {H H' : Hp} (x : Same H H') : Kp a H H' := fun b o _ h => x b o h
theorem Kp.then {a : Addr} {H H1 H2 : Hp} (x : Kp a H H1) (y : Same H1 H2) : Kp a H H2 := x.trans (.same y)
theorem Kp.new {a p : Addr} {H : Hp} {o : HO} (h : H p = none) : Kp a H (upd H p o) := fun b u _ e => by rw [upd_ne (ne_of_none e h)]; exact e
theorem Kp.put {a : Addr} {H H1 : Hp} {o : HO} (x : Kp a H H1) : Kp a H (upd H1 a o) := fun b u n e => by rw [upd_ne n]; exact x b u n e
/-- p was not there at H: it may change -/
theorem Kp.mut {a p : Addr} {H H1 : Hp} {o : HO} (x : Kp a H H1) (h : H p = none) : Kp a H (upd H1 p o) := fun b u n e => by rw [upd_ne (ne_of_none e h)]; exact x b u n e
theorem Kp.lst {K : PySem.W.Frag} {a t : Addr} {H H' : Hp} {xs : List V} (x : Kp a H H') (n : t ≠ a) (h : SqL K H t xs) : SqL K H' t xs := by
  rcases h with (h | ⟨o, h⟩) | h
  · exact .inl (.inl (x _ _ n h))
  · exact .inl (.inr ⟨o, x _ _ n h⟩)
  · exact .inr h
theorem Kp.tup {K : PySem.W.Frag} {a t : Addr} {H H' : Hp} {xs : List V} (x : Kp a H H') (n : t ≠ a) (h : SqT K H t xs) : SqT K H' t xs := by
  rcases h with (h | ⟨o, h⟩) | h
  · exact .inl (.inl (x _ _ n h))
  · exact .inl (.inr ⟨o, x _ _ n h⟩)
  · exact .inr h
theorem _root_.L2.Same.new {p : Addr} {H : Hp} {o : HO} (h : H p = none) : Same H (upd H p o) := fun b u e => by rw [upd_ne (ne_of_none e h)]; exact e
theorem _root_.L2.Same.mut {p : Addr} {H H1 : Hp} {o : HO} (x : Same H H1) (h : H p = none) : Same H (upd H1 p o) := fun b u e => by rw [upd_ne (ne_of_none e h)]; exact x b u e
theorem _root_.L2.Same.tup {K : PySem.W.Frag} {t : Addr} {H H' : Hp} {xs : List V} (x : Same H H') (h : SqT K H t xs) : SqT K H' t xs := by
  rcases h with (h | ⟨o, h⟩) | h
  · exact .inl (.inl (x _ _ h))
  · exact .inl (.inr ⟨o, x _ _ h⟩)
  · exact .inr h
theorem ne_none {H : Hp} {p a : Addr} {o : HO} (h : H p = none) (h' : H a = some o) : p ≠ a := fun e => by rw [e, h'] at h; cases h

/-! ### the source of draws -/
/-- at a: a source that has n draws left, and more -/
def Src (H : Hp) (a : Addr) (n : Nat) : Prop := ∃ g s c : Int, H a = some (.lst [.int g, .int s, .int c]) ∧ 0 ≤ s ∧ s < 2147483647 ∧ 0 ≤ c ∧ c + n ≤ 1099511627776
theorem Src.mono {H : Hp} {a : Addr} {n m : Nat} (x : Src H a n) (h : m ≤ n) : Src H a m := let ⟨g, s, c, e, a1, a2, a3, a4⟩ := x; ⟨g, s, c, e, a1, a2, a3, by omega⟩
theorem Src.same {H H' : Hp} {a : Addr} {n : Nat} (x : Src H a n) (h : Same H H') : Src H' a n := let ⟨g, s, c, e, r⟩ := x; ⟨g, s, c, h _ _ e, r⟩
theorem Src.ne {H : Hp} {a p : Addr} {n : Nat} (x : Src H a n) (h : H p = none) : p ≠ a := let ⟨_, _, _, e, _⟩ := x; ne_none h e
theorem Src.new {H : Hp} {a p : Addr} {n : Nat} {o : HO} (x : Src H a n) (h : H p = none) : Src (upd H p o) a n := x.same (Same.new h)
theorem Src.put {H : Hp} {a p : Addr} {n : Nat} {o : HO} (x : Src H a n) (h : p ≠ a) : Src (upd H p o) a n := let ⟨g, s, c, e, r⟩ := x; ⟨g, s, c, by rw [upd_ne (Ne.symm h)]; exact e, r⟩

/-! ### a def that is called by its name: one fact -/
structure Cal (P : Program) (w : World) (K : PySem.W.Frag) (mg : Str → Option Value) (base : Heap) (CX : CXT) (k : Nat) (x : Str) (ps : List Str) (sp : Sp) : Prop where
  ex : ∃ (f : Addr) (fd : FuncData), FnOk P w K mg base CX k f fd ps sp ∧ mg x = some (.ref f) ∧ PySem.W.keepIn K (.ref f) = true ∧ Binds K fd ps []
theorem pe_cal {X : Cx} {CX : CXT} {k : Nat} {x : Str} {ps : List Str} {sp : Sp} {E : XK} {e : Expr} {es : List Expr} {t : TA} {p pos : Pos} (c : Cal X.prog X.w X.K X.mg X.base CX k x ps sp) (hr : Room k X.A) (hx : Passes CX X E) (ha : PA X (e :: es) t) (hg : Gl X x := by rfl)
    (hdb : (x == ("__debug__" : Str)) = false := by decide) (he : starEach (e :: es) X.env = (false, eval e X.env) :: starEach es X.env := by rfl) (hpl : (backTo pos (starEach es X.env)).any (·.1) = false := by rfl) :
    PE X (.Call (.Name x p) (e :: es) [] pos) (tCall sp [] E t) := by
  obtain ⟨f, fd, F, m, kp, b⟩ := c.ex
  exact pe_call F hr hg m kp b .nil hx ha hdb he hpl
theorem Cal.mono {P : Program} {w : World} {K : PySem.W.Frag} {mg : Str → Option Value} {base : Heap} {CX : CXT} {k j : Nat} {x : Str} {ps : List Str} {sp : Sp} (c : Cal P w K mg base CX k x ps sp) (h : k ≤ j) : Cal P w K mg base CX j x ps sp :=
  let ⟨f, fd, F, m, kp, b⟩ := c.ex
  ⟨⟨f, fd, F.mono h, m, kp, b⟩⟩

/-! ### names -/
def Low (c : Nat) : Prop := 97 ≤ c ∧ c ≤ 122
def IsName (z : Str) : Prop := 1 ≤ z.cps.size ∧ z.cps.size ≤ 8 ∧ ∀ c ∈ z.cps.toList, Low c
instance (z : Str) : Decidable (IsName z) := by unfold IsName Low; infer_instance
theorem IsName.len {z : Str} (h : IsName z) : z.length ≤ 8 := h.2.1

theorem alpha_at {i : Int} (h0 : 0 ≤ i) (h : i < 26) : ∃ c, atI ("abcdefghijklmnopqrstuvwxyz" : Str).cps.toList i = some c ∧ Low c := by
  obtain ⟨n, rfl⟩ := Int.eq_ofNat_of_zero_le h0
  have e : ∀ n : Fin 26, atI ("abcdefghijklmnopqrstuvwxyz" : Str).cps.toList ((n.val : Nat) : Int) = some (97 + n.val) := by decide +kernel
  exact ⟨97 + n, e ⟨n, by omega⟩, by unfold Low; omega⟩

theorem atI_mem {α : Type} {xs : List α} {v : Int} (h0 : 0 ≤ v) (h : v < xs.length) : ∃ x ∈ xs, atI xs v = some x := by
  obtain ⟨n, rfl⟩ := Int.eq_ofNat_of_zero_le h0
  have hn : n < xs.length := by omega
  refine ⟨xs[n], List.getElem_mem hn, ?_⟩
  exact atI_nat (List.getElem?_eq_getElem hn)
theorem inV_str {z : Str} {zs : List Str} : inV (.str z) (zs.map V.str) = decide (z ∈ zs) := by
  unfold inV
  induction zs with
  | nil => rfl
  | cons y ys ih =>
    rw [List.map_cons, List.any_cons, ih]
    show ((y == z) || _) = _
    by_cases h : y = z
    · subst h; simp
    · have h' : ¬ z = y := fun e => h e.symm
      simp [h, h']
theorem tl_inj {x y : Str} (h : x.cps.toList = y.cps.toList) : x = y := by
  cases x; cases y
  simp only [Str.mk.injEq]
  exact Array.toList_inj.mp h
theorem join_nil (ys : List Str) : (Txt.join ("" : Str) ys).cps.toList = (ys.map fun y => y.cps.toList).flatten := by
  rw [TL.join_eq, show (Str.join ("" : Str) ys).cps.toList = TL.tl (Str.join ("" : Str) ys) from rfl, TL.tl_join]
  show TL.joinL [] (ys.map TL.tl) = _
  generalize ys.map TL.tl = l
  induction l with
  | nil => rfl
  | cons p r ih =>
    cases r with
    | nil => simp [TL.joinL]
    | cons q r => show p ++ ([] ++ TL.joinL [] (q :: r)) = _; rw [ih]; simp
theorem join_signs (cs : List Nat) : Txt.join ("" : Str) (cs.map fun c => (⟨#[c]⟩ : Str)) = ⟨cs.toArray⟩ := by
  refine tl_inj ?_
  rw [join_nil, List.map_map]
  show (cs.map fun c => [c]).flatten = cs
  induction cs with
  | nil => rfl
  | cons c cs ih => rw [List.map_cons, List.flatten_cons, ih]; rfl
theorem str_add (x y : Str) : (x ++ y).cps.toList = x.cps.toList ++ y.cps.toList := TL.tl_append x y
theorem len_tl (z : Str) : z.length = z.cps.toList.length := by show z.cps.size = _; rw [Array.length_toList]

/-! ### rules whose reading names the written part (for comprehensions' blocks) -/
section
variable (K : PySem.W.Frag) {X : Cx}
theorem ixl (h : X.K = K := by rfl) : IxR X (rIxL K) := h ▸ ix_list
theorem ixt (h : X.K = K := by rfl) : IxR X (rIxT K) := h ▸ ix_tup
theorem oin (h : X.K = K := by rfl) : OpR X (compareOp .In) (rIn K false) := h ▸ op_in_seq
theorem nin (h : X.K = K := by rfl) : OpR X (compareOp .NotIn) (rIn K true) := h ▸ op_notIn_seq
def rLenK : List V → Hp → VK → Prop := fun xs H Q => ∃ p ys, xs = [.ref p] ∧ (SqL K H p ys ∨ SqT K H p ys) ∧ Q (.int (ys.length : Nat)) H
theorem k_len (h : X.K = K := by rfl) : CallR X (.builtin "len") (rLenK K) := h ▸ call_len_seq
def rListK : List V → Hp → VK → Prop := fun xs H Q => ∃ p ys, xs = [.ref p] ∧ (SqL K H p ys ∨ SqT K H p ys) ∧ ∀ l, H l = none → Q (.ref l) (upd H l (.lst ys))
theorem k_list (h : X.K = K := by rfl) : CallR X (.type "list") (rListK K) := h ▸ call_list_of
def rTupK : List V → Hp → VK → Prop := fun xs H Q => ∃ p ys, xs = [.ref p] ∧ ((SqL K H p ys ∧ ∀ l, H l = none → Q (.ref l) (upd H l (.tup ys))) ∨ (SqT K H p ys ∧ Q (.ref p) H))
theorem k_tuple (h : X.K = K := by rfl) : CallR X (.type "tuple") (rTupK K) := h ▸ call_tuple_of
theorem k_isi (h : X.K = K := by rfl) : CallR X (.builtin "isinstance") (rIsi K) := h ▸ call_isi
theorem k_all (hc : X.calm = true := by rfl) (h : X.K = K := by rfl) : CallR X (.builtin "all") (rAll K) := h ▸ cr_all hc
theorem k_any (hc : X.calm = true := by rfl) (h : X.K = K := by rfl) : CallR X (.builtin "any") (rAny K) := h ▸ cr_any hc
theorem k_sortedS (h : X.K = K := by rfl) : CallR X (.builtin "sorted") (rSortedS K) := h ▸ cr_sortedS
theorem eqD {k : Nat} (hr : Room k X.A) (h : X.K = K := by rfl) : OpR X (compareOp .Eq) (rEqD K) := h ▸ op_eqD hr.units
theorem neD {k : Nat} (hr : Room k X.A) (h : X.K = K := by rfl) : OpR X (compareOp .NotEq) (rNeD K) := h ▸ op_neD hr.units
theorem fldK {e : Expr} {ta : TE} {f : Str} {pos : Pos} (he : PE X e ta) (hb : attributeBase e f X.env (eval e X.env) = eval e X.env := by rfl) (h : X.K = K := by rfl) : PE X (.Attribute e f pos) (tFld K ta f) := h ▸ pe_fld he hb
end
theorem yes_then {σ : L2.St} {H : Hp} {A B : Hp → Prop} (h : A H) : tYes σ H (fun b H3 => if b = true then A H3 else B H3) := by
  show (if true = true then A H else B H)
  rw [if_pos rfl]
  exact h
end Mf
/-! Operators of own classes (dunder methods that are plain defs), over the hand layer. -/
namespace Mf
open PySem PySem.Spec PyProof.Rows L2

section
variable {X : Cx} {CX : CXT} {k : Nat} {f C a dx : Addr} {fd : FuncData} {ps : List Str} {sp : Sp} {E : XK} {ds : List Value} {dvs : List V} {pins : List (Addr × Obj)} {σ : L2.St} {H : Hp} {s : Shared} {fs : List (Str × V)}

theorem Inv.inst (I : Inv X pins σ H s) (e : H a = some (.ins C dx fs)) : ∃ od, PySem.W.InstAt s.heap a (PySem.W.instObj C dx) C (some od) :=
  let ⟨_, O, _⟩ := ins_get I.hok e
  let ⟨od, i, _⟩ := O.look
  ⟨od, i⟩

/-- a def runs, from anywhere under the body X -/
theorem run_in {A : Around} {Q : VK} {us : List Value} {vs : List V} (F : FnOk X.prog X.w X.K X.mg X.base CX k f fd ps sp) (hr : Room k A) (hb : Binds X.K fd ps ds) (hd : Vals dvs ds) (hx : Passes CX X E)
    (e0 : Env0 X.prog X.w X.K X.mg X.base A X.stack s H) (I : Inv X pins σ H s) (r : Vals vs us) (h : sp (vs ++ dvs) H Q E) : wpAny (model X.prog X.w) A (call (.ref f) us) (EP X pins σ Q) X.xe s := by
  have r2 : Vals (vs ++ dvs) (us ++ ds) := r.append hd
  have hl : (us ++ ds).length = ps.length := by rw [← r2.length]; exact F.len _ _ _ _ h
  refine wpAny_call (codeAny_mono (F.run A X.stack s H ⟨us, []⟩ (us ++ ds) (vs ++ dvs) Q E hr e0 (hb s us I.kIn hl) r2 h) fun r s' hq => ?_)
  rcases r with e | fl
  · exact hx pins σ H s e s' I hq
  · rcases fl with _ | _ | _ | u
    all_goals first | exact False.elim hq | exact I.after hq

/-- what type the other operand has: it isn't below C -/
def NotBelow (K : PySem.W.Frag) (C : Addr) (y : V) (H : Hp) : Prop := ∃ t, TyX K H y t ∧ PySem.W.notFirst K C t = true

/-- x op y by the class's own def -/
def rCmpO (K : PySem.W.Frag) (C : Addr) (sp : Sp) (E : XK) : R2 := fun x y H Q => ∃ a dx fs, x = .ref a ∧ H a = some (.ins C dx fs) ∧ NotBelow K C y H ∧ sp [x, y] H Q E
theorem op_cmpO {op : CmpOp} (m : Meth X.K C (cmpInfo op).2.1 f) (F : FnOk X.prog X.w X.K X.mg X.base CX k f fd ps sp) (hr : Room k X.A) (hb : Binds X.K fd ps []) (hx : Passes CX X E)
    (hop : ∀ a b, compareOp op a b = richCompare op a b := by exact fun _ _ => rfl) : OpR X (compareOp op) (rCmpO X.K C sp E) := by
  intro pins s σ H x y v u Q I rx ry h
  obtain ⟨a, dx, fs, rfl, ha, ⟨t, ty, nb⟩, q⟩ := h
  cases (show v = Value.ref a from rx)
  obtain ⟨od, J⟩ := Inv.inst I ha
  obtain ⟨mm, hF⟩ := I.fr
  obtain ⟨Pk, Z, p, _⟩ := kit_of I ry ty
  rw [hop]
  refine PySem.W.cmp_K (op := op) (tb := t) hr.units0 hF I.ok.mod.kin J (Z.ty _ _ I.kIn p) nb m.at_ m.fn ?_
  refine wpAny_mono (run_in (us := [.ref a, u]) (vs := [.ref a, y]) F hr hb .nil hx I.env0 I (.cons rfl (.cons ry .nil)) (by rw [List.append_nil]; exact q)) (fun z s' e => ?_) fun _ _ e => e
  obtain ⟨z', H', I', rz, qz⟩ := e
  exact SlX.cmpback rz ⟨z', H', I', rz, qz⟩

/-- x != y by the class's own __eq__ -/
def rNeO (K : PySem.W.Frag) (C : Addr) (sp : Sp) (E : XK) : R2 := fun x y H Q => ∃ a dx fs, x = .ref a ∧ H a = some (.ins C dx fs) ∧ NotBelow K C y H ∧ sp [x, y] H (fun v H' => ∃ b, v = .bl b ∧ Q (.bl (!b)) H') E
theorem op_neO (m : Meth X.K C "__eq__" f) (ne : PySem.W.findIn X.K (.ref C) "__ne__" = some (some (.builtin "object.__ne__"))) (mo : PySem.W.mroIn X.K C (.type "object") = some true)
    (F : FnOk X.prog X.w X.K X.mg X.base CX k f fd ps sp) (hr : Room (k + 1) X.A) (hb : Binds X.K fd ps []) (hx : Passes CX X E) : OpR X (compareOp .NotEq) (rNeO X.K C sp E) := by
  intro pins s σ H x y v u Q I rx ry h
  obtain ⟨a, dx, fs, rfl, ha, ⟨t, ty, nb⟩, q⟩ := h
  cases (show v = Value.ref a from rx)
  obtain ⟨od, J⟩ := Inv.inst I ha
  obtain ⟨Pk, Z, p, _⟩ := kit_of I ry ty
  have Lb : PySem.W.Looks (model X.prog X.w) s.heap (typeOf u) t := Z.ty _ _ I.kIn p
  have core : wpAny (model X.prog X.w) X.A (call (.builtin "object.__ne__") [.ref a, u]) (EP X pins σ Q) X.xe s := by
    refine wpAny_call (codeAny_call_builtin PySem.F.cmp_object.ne.plain PySem.F.cmpEntry_ne (PySem.W.check_slot (i := "object.__ne__") (owner := "object") (n := "__ne__") PySem.F.cmpKind_ne PySem.F.cmpSplit_ne (J.type.andThen (PySem.W.looks_mroIn I.kIn mo)) (PySem.F.cmpArgs_ne _ _) ?_))
    unfold Builtin.«object.__ne__»
    refine wpAny_bind (m := slotArgs "__ne__" 1 _) (wpAny_pure ?_)
    refine wpAny_bind (m := cRoomFor _ _) (wpAny_cRoomFor (hr.in1).units0 ?_)
    refine wpAny_bind (m := callSpecialIfBound? (.ref a) (Str.ofString "__eq__") _) (PySem.W.ifBound_K I.kIn J m.at_ m.fn ?_)
    refine wpAny_mono (run_in (us := [.ref a, u]) (vs := [.ref a, y]) F hr.in1 hb .nil hx I.env0.in1 I (.cons rfl (.cons ry .nil)) (by rw [List.append_nil]; exact q)) (fun z s' e => ?_) fun _ _ e => e
    obtain ⟨z', H', I', rz, b, rfl, qz⟩ := e
    cases (show z = Value.bool b from rz)
    exact wpAny_bind (wpAny_truthy_bool (wpAny_pure ⟨.bl (!b), H', I', rfl, qz⟩))
  have one : wpAny (model X.prog X.w) X.A (tryCompare (.ref a) "__ne__" u) (fun r s' => ∃ v, r = some v ∧ EP X pins σ Q v s') X.xe s := by
    unfold tryCompare
    refine wpAny_bind ?_
    simp only [callSpecialIfBound?, bindSpecialIfBound?]
    refine wpAny_holding (wpAny_bind (wpAny_bind (wpAny_bind (J.type.here ((PySem.W.looks_findIn I.kIn ne).here ?_)))))
    simp only [PySem.F.cmp_object.ne.bind]
    have fin : wpAny (model X.prog X.w) X.A (call (.builtin "object.__ne__") ([.ref a] ++ [u]) >>= fun v => pure (some v)) (fun a_1 s' => wpAny (model X.prog X.w) X.A (match a_1 with
        | some Value.notImplemented | none => pure none
        | some v => pure (some v)) (fun r s' => ∃ v, r = some v ∧ EP X pins σ Q v s') X.xe s') X.xe s := by
      refine wpAny_bind (wpAny_mono core (fun z s' e => wpAny_pure ?_) fun _ _ e => e)
      have e2 := e
      obtain ⟨z', H', I', rz, qz⟩ := e2
      have nn : PySem.W.CmpBack (fun z s' => EP X pins σ Q z s') z s' := SlX.cmpback rz e
      cases z <;> first | exact nn.elim | exact wpAny_pure ⟨_, rfl, nn⟩
    refine wpAny_bind (wpAny_askSetting (wpAny_ite ?_))
    split
    · exact wpAny_bind (wpAny_pure (wpAny_pure fin))
    · exact wpAny_tryCatch (wpAny_bind (wpAny_pure (wpAny_pure fin)))
  show wpAny _ _ (richCompare .NotEq (.ref a) u) _ _ s
  unfold richCompare
  simp only [oneThing_ref]
  refine wpAny_holding (wpAny_bind (wpAny_cRoomFor hr.units0 ?_))
  refine wpAny_bind (J.type.here (wpAny_bind (Lb.here ?_)))
  split
  · rename_i h1
    have e : PySem.W.subIn X.K t (.ref C) = some false := by
      rcases Bool.or_eq_true_iff.mp nb with e | e
      · rw [beq_iff_eq.mp e] at h1; simp at h1
      · exact beq_iff_eq.mp e
    refine wpAny_bind ((PySem.W.looks_subIn I.kIn e).here ?_)
    simp only [Bool.false_eq_true, if_false]
    refine wpAny_bind (wpAny_mono one (fun r s' z => ?_) fun _ _ e => e)
    obtain ⟨v, rfl, hq⟩ := z
    exact wpAny_pure hq
  · refine wpAny_bind (wpAny_pure ?_)
    simp only [Bool.false_eq_true, if_false]
    refine wpAny_bind (wpAny_mono one (fun r s' z => ?_) fun _ _ e => e)
    obtain ⟨v, rfl, hq⟩ := z
    exact wpAny_pure hq

/-- x op y, both of the class -/
def rBinO (C : Addr) (sp : Sp) (E : XK) : R2 := fun x y H Q => ∃ a dx fs b dy gs, x = .ref a ∧ y = .ref b ∧ H a = some (.ins C dx fs) ∧ H b = some (.ins C dy gs) ∧ sp [x, y] H Q E
theorem op_binO {op : Operator} (m : Meth X.K C (PySem.dunder op.info.2) f) (sf : PySem.W.selfFirst X.K C = true) (F : FnOk X.prog X.w X.K X.mg X.base CX k f fd ps sp) (hr : Room k X.A) (hb : Binds X.K fd ps []) (hx : Passes CX X E) :
    OpR X (binaryOp op) (rBinO C sp E) := by
  intro pins s σ H x y v u Q I rx ry h
  obtain ⟨a, dx, fs, b, dy, gs, rfl, rfl, ha, hb', q⟩ := h
  cases (show v = Value.ref a from rx)
  cases (show u = Value.ref b from ry)
  obtain ⟨od, J⟩ := Inv.inst I ha
  obtain ⟨oe, J'⟩ := Inv.inst I hb'
  obtain ⟨mm, hF⟩ := I.fr
  refine PySem.W.binop_K hF I.ok.mod.kin J J'.type sf m.at_ m.fn ?_
  refine wpAny_mono (run_in (us := [.ref a, .ref b]) (vs := [.ref a, .ref b]) F hr hb .nil hx I.env0 I (.cons rfl (.cons rfl .nil)) (by rw [List.append_nil]; exact q)) (fun z s' e => ?_) fun _ _ e => e
  obtain ⟨z', H', I', rz, qz⟩ := e
  exact SlX.cmpback rz ⟨z', H', I', rz, qz⟩

/-- y in x, y not in x -/
def rInO (C : Addr) (neg : Bool) (sp : Sp) (E : XK) : R2 := fun y x H Q => ∃ a dx fs, x = .ref a ∧ H a = some (.ins C dx fs) ∧ sp [x, y] H (fun v H' => ∃ b, v = .bl b ∧ Q (.bl (if neg then !b else b)) H') E
theorem op_inO (m : Meth X.K C "__contains__" f) (F : FnOk X.prog X.w X.K X.mg X.base CX k f fd ps sp) (hr : Room k X.A) (hb : Binds X.K fd ps []) (hx : Passes CX X E) : OpR X (compareOp .In) (rInO C false sp E) := by
  intro pins s σ H y x u v Q I ry rx h
  obtain ⟨a, dx, fs, rfl, ha, q⟩ := h
  cases (show v = Value.ref a from rx)
  obtain ⟨od, J⟩ := Inv.inst I ha
  obtain ⟨mm, hF⟩ := I.fr
  refine PySem.W.in_K hF I.ok.mod.kin J m.at_ m.fn ?_
  refine wpAny_mono (run_in (us := [.ref a, u]) (vs := [.ref a, y]) F hr hb .nil hx I.env0 I (.cons rfl (.cons ry .nil)) (by rw [List.append_nil]; exact q)) (fun z s' e => ?_) fun _ _ e => e
  obtain ⟨z', H', I', rz, b, rfl, qz⟩ := e
  cases (show z = Value.bool b from rz)
  exact wpAny_truthy_bool ⟨.bl b, H', I', rfl, qz⟩
theorem op_notInO (m : Meth X.K C "__contains__" f) (F : FnOk X.prog X.w X.K X.mg X.base CX k f fd ps sp) (hr : Room k X.A) (hb : Binds X.K fd ps []) (hx : Passes CX X E) : OpR X (compareOp .NotIn) (rInO C true sp E) := by
  intro pins s σ H y x u v Q I ry rx h
  obtain ⟨a, dx, fs, rfl, ha, q⟩ := h
  cases (show v = Value.ref a from rx)
  obtain ⟨od, J⟩ := Inv.inst I ha
  obtain ⟨mm, hF⟩ := I.fr
  refine PySem.W.notIn_K hF I.ok.mod.kin J m.at_ m.fn ?_
  refine wpAny_mono (run_in (us := [.ref a, u]) (vs := [.ref a, y]) F hr hb .nil hx I.env0 I (.cons rfl (.cons ry .nil)) (by rw [List.append_nil]; exact q)) (fun z s' e => ?_) fun _ _ e => e
  obtain ⟨z', H', I', rz, b, rfl, qz⟩ := e
  cases (show z = Value.bool b from rz)
  exact wpAny_truthy_bool ⟨.bl (!b), H', I', rfl, qz⟩

/-- len(x) -/
def rLenO (C : Addr) (sp : Sp) (E : XK) : List V → Hp → VK → Prop := fun xs H Q => ∃ a dx fs, xs = [.ref a] ∧ H a = some (.ins C dx fs) ∧ sp xs H (fun v H' => ∃ n : Nat, v = .int n ∧ n < 2 ^ 62 ∧ Q v H') E
theorem call_lenO (m : Meth X.K C "__len__" f) (F : FnOk X.prog X.w X.K X.mg X.base CX k f fd ps sp) (hr : Room (k + 1) X.A) (hb : Binds X.K fd ps []) (hx : Passes CX X E) : CallR X (.builtin "len") (rLenO C sp E) := by
  intro pins s σ H xs us Q I r h
  obtain ⟨a, dx, fs, rfl, ha, q⟩ := h
  rw [Vals.ref1 r]
  obtain ⟨od, J⟩ := Inv.inst I ha
  obtain ⟨mm, hF⟩ := I.fr
  refine PySem.W.len_K hF I.ok.mod.kin J m.at_ m.fn ?_
  refine wpAny_mono (run_in (us := [.ref a]) (vs := [.ref a]) F hr.in1 hb .nil hx I.env0.in1 I (.cons rfl .nil) (by rw [List.append_nil]; exact q)) (fun z s' e => ?_) fun _ _ e => e
  obtain ⟨z', H', I', rz, n, rfl, hn, qz⟩ := e
  obtain ⟨t, rfl⟩ := (show ∃ t, z = Value.int n t from rz)
  exact ⟨⟨by omega, by omega⟩, .int n, H', I'.tok _, ⟨_, rfl⟩, qz⟩

/-- x[y] -/
def rGetO (C : Addr) (sp : Sp) (E : XK) : R2 := fun x y H Q => ∃ a dx fs, x = .ref a ∧ H a = some (.ins C dx fs) ∧ sp [x, y] H Q E
theorem pe_getO {o i : Expr} {to ti : TE} {pos : Pos} (m : Meth X.K C "__getitem__" f) (fn : PySem.W.fnIn X.K f = true) (F : FnOk X.prog X.w X.K X.mg X.base CX k f fd ps sp) (hr : Room (k + 1) X.A) (hb : Binds X.K fd ps []) (hx : Passes CX X E) (ho : PE X o to) (hi : PE X i ti)
    (hsl : ∀ x y, subscripted i true x y = runValue (.builtin "lifetime.subscript" ⟨[x, y], []⟩) := by intro _ _; with_unfolding_all rfl) : PE X (.Subscript o i pos) (tOp (rGetO C sp E) to ti) := by
  refine ⟨fun pins s σ H Q I h => ?_⟩
  refine Subscript_ (binT ho hi I h fun v u s2 x y H2 I2 rx ry q => ?_)
  obtain ⟨a, dx, fs, rfl, ha, q⟩ := q
  cases (show v = Value.ref a from rx)
  obtain ⟨od, J⟩ := Inv.inst I2 ha
  obtain ⟨mm, hF⟩ := I2.fr
  refine PySem.W.sub_K hF I2.ok.mod.kin J m.at_ fn m.fn ?_ (hsl _ _)
  exact run_in (us := [.ref a, u]) (vs := [.ref a, y]) F hr.in1 hb .nil hx I2.env0.in1 I2 (.cons rfl (.cons ry .nil)) (by rw [List.append_nil]; exact q)
end
end Mf

/-! Sets of texts built by set(xs), and sorted(..) of them. -/
namespace Mf
open PySem PySem.Spec PyProof.Rows L2 PySem.Froz

section
variable {P : Program} {w : World} {A : Around} {E : Value → Shared → Prop} {s : Shared} {a : Addr} {l : List Str} {k : Str} {u : Tok}

/-- a set of the texts l (each once) at a -/
def TxR (P : Program) (w : World) (h : Heap) (a : Addr) (l : List Str) : Prop :=
  (∃ D : SD, h.get? a = some (sObj "set" D) ∧ TxOk P w D l ∧ Ris D.2.2.place.toList ∧ (w.params.followText "set-order" = true ∨ D.2.2.led = true)) ∧ l.Nodup ∧ l.length < scanBound

theorem TxR.keep {h h' : Heap} (R : TxR P w h a l) (q : ∀ o, h.get? a = some o → h'.get? a = some o) : TxR P w h' a l :=
  let ⟨⟨D, e, z⟩, n, f⟩ := R
  ⟨⟨D, q _ e, z⟩, n, f⟩

theorem add_order (D : SD) (x : Int) (v : Value) (r : Ris D.2.2.place.toList) : Ris (addTx x v D).2.2.place.toList ∧ (addTx x v D).2.2.led = D.2.2.led := by
  obtain ⟨es, ep, t⟩ := D
  have r1 := layNew_ris t es x v r
  have l1 := layNew_led t es x v
  show Ris (tailTx ep (layNew t es x v).1 (if (layNew t es x v).2.1.plain = true then { (layNew t es x v).2.1 with plain := false } else (layNew t es x v).2.1) (layNew t es x v).2.2.1).2.2.place.toList ∧ (tailTx ep (layNew t es x v).1 (if (layNew t es x v).2.1.plain = true then { (layNew t es x v).2.1 with plain := false } else (layNew t es x v).2.1) (layNew t es x v).2.2.1).2.2.led = t.led
  generalize layNew t es x v = Z at r1 l1 ⊢
  obtain ⟨es1, t1, wd, g⟩ := Z
  dsimp only at r1 l1 ⊢
  have r2 : Ris (if t1.plain = true then { t1 with plain := false } else t1).place.toList := by split <;> exact r1
  have l2 : (if t1.plain = true then { t1 with plain := false } else t1).led = t.led := by split <;> exact l1
  generalize (if t1.plain = true then { t1 with plain := false } else t1) = t2 at r2 l2 ⊢
  unfold tailTx
  split
  · exact ⟨relayAll_ris t2 es1 _, (relayAll_led t2 es1 _).trans l2⟩
  · exact ⟨r2, l2⟩

theorem add_dup {Q : Bool → Shared → Prop} {D : SD} (ho : s.heap.get? a = some (sObj "set" D)) (F : TxOk P w D l) (hk : k ∈ l) (hb : l.length < scanBound) (h : Q false s) : wpAny (model P w) A (setAddHashed a (.str k u) (hashStr w k)) Q E s := by
  obtain ⟨es, ep, t⟩ := D
  have dd : (sObj "set" (es, ep, t)).data = .set es ep t := rfl
  have ff : t.fits es.size = true := F.fit
  have el : ElemsOf (strKind P w) es.toList := F.el
  have zz : es.size = l.length := F.sz
  have b0 : es.size < scanBound := by omega
  have key : (strKind P w).is k (.str k u) = true := is_str k u
  unfold setAddHashed setAddHashedIn
  refine wpAny_holding (wpAny_bind (wpAny_setState_of ho dd ff ?_))
  dsimp only
  rw [byScan_of rfl b0 el]
  simp only [↓reduceIte]
  unfold setAddByScan
  refine wpAny_bind ?_
  refine wpAny_bind (wpAny_rule ?_)
  refine wpAny_bind (wpAny_setScan_of (knd := strKind P w) (k := k) key ho dd ff el ?_)
  cases hr : List.findIdx? (fun e => (strKind P w).is k e.2) es.toList with
  | some j => exact wpAny_pure (wpAny_pure h)
  | none =>
    obtain ⟨e, he, q⟩ := (F.mem k).mp hk
    have c := List.findIdx?_eq_none_iff.mp hr e he
    rw [q] at c
    cases c

theorem txr_add {Q : Bool → Shared → Prop} (R : TxR P w s.heap a l) (room : l.length + 1 < scanBound)
    (hQ : ∀ (b : Bool) h' l', Heap.SameBut a s.heap h' → TxR P w h' a l' → (∀ z, z ∈ l' ↔ z ∈ l ∨ z = k) → l'.length ≤ l.length + 1 → Q b { s with heap := h' }) :
    wpAny (model P w) A (setAddHashed a (.str k u) (hashStr w k)) Q E s := by
  obtain ⟨⟨D, ho, F, r, fl⟩, nd, few⟩ := id R
  by_cases hk : k ∈ l
  · refine add_dup ho F hk few ?_
    exact hQ false s.heap l (Heap.SameBut.refl a s.heap) R (fun z => ⟨Or.inl, fun q => q.elim id fun e => e ▸ hk⟩) (Nat.le_succ _)
  · refine add_x ho F hk room ?_
    have o := add_order D (hashStr w k) (.str k u) r
    refine hQ true _ (k :: l) (Heap.SameBut.update s.heap a _) ⟨⟨_, get_upd _ ho rfl, add_ok u F, o.1, fl.imp id fun z => o.2.trans z⟩, List.nodup_cons.mpr ⟨hk, nd⟩, room⟩ (fun z => ?_) (Nat.le_refl _)
    rw [List.mem_cons]
    exact Or.comm

theorem txr_new {h : Heap} (e : h.get? a = some { cls := .type "set", dict := none, data := .set #[] 0 (.fresh 0 0 (!w.params.followText "set-order")) }) : TxR P w h a [] := by
  refine ⟨⟨(#[], 0, .fresh 0 0 (!w.params.followText "set-order")), e, TxOk.nil rfl, List.Pairwise.nil, ?_⟩, List.nodup_nil, by decide⟩
  show _ ∨ (!w.params.followText "set-order") = true
  cases w.params.followText "set-order"
  · exact .inr rfl
  · exact .inl rfl

/-- set.update's turns over texts -/
theorem loop_txt {I : Addr} {fp wr : List Addr} {G : Array GenState → Array GenState → Prop} {n : Nat} {Pv : Nat → Value → Prop} {St : Nat → Shared → Prop} {R : Result → Shared → Prop}
    (W : WalksS P w A.in1 I fp wr G n Pv St) (S : Addr) (nS : S ∉ fp) (xs : List Str) (hn : n = xs.length) (room : n + 1 < scanBound) (val : ∀ i v, Pv i v → ∃ x t, xs[i]? = some x ∧ v = .str x t) :
    ∀ (k i : Nat) (s : Shared), n - i = k → i ≤ n → St i s → (∃ l, TxR P w s.heap S l ∧ (∀ z, z ∈ l ↔ z ∈ xs.take i) ∧ l.length ≤ i) →
      (∀ s' l, Moved (S :: wr) G s s' → TxR P w s'.heap S l → (∀ z, z ∈ l ↔ z ∈ xs) → R (.ok (.ret .none)) s') →
      codeAny (model P w) A (.builtin "set.update.loop" ⟨[.ref S, .ref I], []⟩) R s := by
  have sw : S ∉ wr := fun q => nS (W.sub _ q)
  have sub : ∀ b ∈ wr, b ∈ S :: wr := fun b q => List.mem_cons_of_mem _ q
  intro k
  induction k with
  | zero =>
    rintro i s hk hi hst ⟨l, hS, hm, _⟩ hR
    obtain rfl : i = n := by omega
    refine codeAny_builtin F.entry_set_update_loop ?_
    rw [Around.under_plainId F.plain_set_update_loop _]
    show wpAny _ A.in1 (pyNext (.ref I) >>= _) _ _ s
    refine wpAny_bind (W.done s _ _ hst fun s' mv => ?_)
    show wpAny _ A.in1 (ret Value.none) _ _ s'
    refine wpAny_pure (hR s' l (mv.mono sub) (hS.keep fun o e => mv.heap S o sw e) fun z => ?_)
    rw [hm z, hn, List.take_length]
  | succ k ih =>
    rintro i s hk hi hst ⟨l, hS, hm, hle⟩ hR
    have lt : i < n := by omega
    refine codeAny_builtin F.entry_set_update_loop ?_
    rw [Around.under_plainId F.plain_set_update_loop _]
    show wpAny _ A.in1 (pyNext (.ref I) >>= _) _ _ s
    refine wpAny_bind (W.item i s _ _ lt hst fun v s' pv' hst' mv => ?_)
    obtain ⟨x, t, ex, rfl⟩ := val i v pv'
    have hS' : TxR P w s'.heap S l := hS.keep fun o e => mv.heap S o sw e
    show wpAny _ A.in1 (holding [Value.str x t] (setAdd S (.str x t)) >>= _) _ _ s'
    refine wpAny_bind (wpAny_holding ?_)
    unfold setAdd
    refine wpAny_holding (wpAny_bind ((strKind P w).pyHash (is_str x t) ?_))
    refine txr_add (s := { s' with toks := s'.toks + 1 }) hS' (by omega) fun b h' l' same R' m' le' => ?_
    have tk : xs.take (i + 1) = xs.take i ++ [x] := by rw [List.take_add_one, ex]; rfl
    refine wpAny_pure ⟨plainId_quiet F.plain_set_update_loop _, ih (i + 1) _ (by omega) lt (W.frame _ s' _ _ hst' (Nat.le_add_right _ _) fun b hb o e => ?_) ⟨l', R', fun z => ?_, by omega⟩ fun s'' l2 mv2 R2 m2 => ?_⟩
    · rw [same.2 b (fun q : b = S => nS (q ▸ hb))]
      exact e
    · rw [m' z, hm z, tk, List.mem_append, List.mem_singleton]
    · refine hR s'' l2 (Moved.trans W.gtrans ((mv.mono sub).then_heap (Nat.le_add_right _ _) fun b o hb e => ?_) mv2) R2 m2
      rw [same.2 b (fun q : b = S => hb (q ▸ List.mem_cons_self))]
      exact e

abbrev set0 (w : World) : Obj := { cls := .type "set", dict := none, data := .set #[] 0 (.fresh 0 0 (!w.params.followText "set-order")) }

/-- how a builtin's tree ends, as a result R -/
def FinX (P : Program) (w : World) (B : Around) (R : Result → Shared → Prop) : Fin → Shared → Prop
  | .done f, s' => R (.ok f) s'
  | .again c', s' => c'.quiet = true ∧ codeAny (model P w) B c' R s'

/-- the set at S is filled from what stands at c -/
def Fills (P : Program) (w : World) (s : Shared) (c : Addr) (xs : List Str) : Prop :=
  ∀ (B : Around) (R : Result → Shared → Prop), B.handled = none →
    (∀ (h' : Heap) (tk : Nat) (l : List Str), TxR P w h' s.heap.objs.size l → (∀ z, z ∈ l ↔ z ∈ xs) → (∀ b o, s.heap.get? b = some o → h'.get? b = some o) → R (.ok (.ret .none)) { s with heap := h', toks := tk }) →
    wpAny (model P w) B.in1 (Builtin.«set.__init__» ⟨[.ref s.heap.objs.size, .ref c], []⟩) (FinX P w B R) (fun e s' => R (.error e) s') { s with heap := s.heap.push (set0 w) }

theorem strs_val {us : List Value} {xs : List Str} (h : StrsAre us xs) : us.length = xs.length ∧ ∀ (i : Nat) (v : Value), us[i]? = some v → ∃ x t, xs[i]? = some x ∧ v = .str x t := by
  induction h with
  | nil => exact ⟨rfl, fun i v q => by simp at q⟩
  | cons x t h ih =>
    refine ⟨congrArg (· + 1) ih.1, fun i v q => ?_⟩
    cases i with
    | zero => exact ⟨x, t, rfl, (Option.some.inj q).symm⟩
    | succ i => exact ih.2 i v q

section
variable {items : Array Value} {xs : List Str} {c : Addr}
theorem fill_end {I : Addr} {R : Result → Shared → Prop} (hI : I = s.heap.objs.size + 1)
    (hR : ∀ (h' : Heap) (tk : Nat) (l : List Str), TxR P w h' s.heap.objs.size l → (∀ z, z ∈ l ↔ z ∈ xs) → (∀ b o, s.heap.get? b = some o → h'.get? b = some o) → R (.ok (.ret .none)) { s with heap := h', toks := tk })
    {h0 : Heap} (k0 : ∀ b o, s.heap.get? b = some o → h0.get? b = some o) {s' : Shared} {l : List Str} (mv : Moved [s.heap.objs.size, I] (fun a b => b = a) { s with heap := h0 } s') (T : TxR P w s'.heap s.heap.objs.size l) (m : ∀ z, z ∈ l ↔ z ∈ xs) : R (.ok (.ret .none)) s' := by
  obtain ⟨h', g2, d2, t2, o2⟩ := s'
  have e1 : g2 = s.gens := mv.gens
  have e2 : d2 = s.drawn := mv.drawn
  have e3 : o2 = s.os := mv.os
  subst e1 e2 e3
  refine hR h' t2 l T m fun b o e => mv.heap b o (fun z => ?_) (k0 b o e)
  have lt : b < s.heap.objs.size := Heap.lt_size e
  rcases List.mem_cons.mp z with z | z
  · exact absurd z (Nat.ne_of_lt lt)
  · exact absurd ((List.mem_singleton.mp z).trans hI) (Nat.ne_of_lt (Nat.lt_succ_of_lt lt))

set_option maxHeartbeats 3200000 in
theorem fills_list (hl : s.heap.IsList c items) (hit : StrsAre items.toList xs) (room : xs.length + 1 < scanBound) : Fills P w s c xs := by
  intro B R hh hR
  obtain ⟨len, val⟩ := strs_val hit
  rw [Array.length_toList] at len
  obtain ⟨⟨k, dd, da, sl⟩, hob, hk, n, hd⟩ := hl
  simp only at hk hd
  subst hk hd
  have hob1 : (s.heap.push (set0 w)).get? c = some { cls := .type "list", dict := dd, data := .seq items n, slots := sl } := Heap.get?_push_of_some _ hob
  have f1 := F.sub_list_set
  have f2 := F.sub_list_frozenset
  have f3 : (Value.type "list" == Value.type "dict") = false := by decide
  have isl : (s.heap.push (set0 w)).IsList c items := ⟨_, hob1, rfl, n, rfl⟩
  unfold Builtin.«set.__init__» noKeywords Builtin.Frozenset.updateFrom
  generalize gq : pyIter = PI
  wp_walk
  subst gq
  refine wpAny_pyIter_list isl ?_
  refine wpAny_bind (wpAny_runValue ?_)
  have h3 : B.in1.in1.handled = none := by simp [hh]
  have lt : c < s.heap.objs.size := Heap.lt_size hob
  have z1 : (s.heap.push (set0 w)).objs.size = s.heap.objs.size + 1 := Heap.size_push ..
  have nI : c ≠ (s.heap.push (set0 w)).objs.size := by rw [z1]; exact Nat.ne_of_lt (Nat.lt_succ_of_lt lt)
  have nS : s.heap.objs.size ∉ [(s.heap.push (set0 w)).objs.size, c] := by
    rw [z1]
    simp only [List.mem_cons, List.not_mem_nil, or_false, not_or]
    exact ⟨Nat.ne_of_lt (Nat.lt_succ_self _), Nat.ne_of_gt lt⟩
  have get0 : (s.heap.push (set0 w)).get? s.heap.objs.size = some (set0 w) := Heap.get?_push_size _ rfl
  refine loop_txt ((Walks.list h3 _ c nI items).toS) s.heap.objs.size nS xs len (by omega) (fun i v q => val i v (by rw [Array.getElem?_toList]; exact q)) (items.size - 0) 0 _ (by omega) (Nat.zero_le _)
    ⟨⟨_, Heap.get?_push_size _ rfl, rfl, rfl⟩, isl.push _⟩ ⟨[], txr_new (Heap.get?_push_of_some _ get0), fun z => by simp, Nat.le_refl 0⟩ fun s' l mv T m => ?_
  have q := fill_end (R := R) z1 hR (fun b o e => Heap.get?_push_of_some _ (Heap.get?_push_of_some _ e)) mv T m
  show wpAny _ _ _ _ _ _
  refine wpAny_pure ?_
  show wpAny _ _ (ret Value.none) _ _ _
  exact wpAny_pure q
set_option maxHeartbeats 3200000 in
theorem fills_tuple (hl : s.heap.IsTuple c items) (hit : StrsAre items.toList xs) (room : xs.length + 1 < scanBound) : Fills P w s c xs := by
  intro B R hh hR
  obtain ⟨len, val⟩ := strs_val hit
  rw [Array.length_toList] at len
  obtain ⟨⟨k, dd, da, sl⟩, hob, hk, n, hd⟩ := hl
  simp only at hk hd
  subst hk hd
  have hob1 : (s.heap.push (set0 w)).get? c = some { cls := .type "tuple", dict := dd, data := .seq items n, slots := sl } := Heap.get?_push_of_some _ hob
  have f1 := F.sub_tuple_set
  have f2 := F.sub_tuple_frozenset
  have f3 : (Value.type "tuple" == Value.type "dict") = false := by decide
  have isl : (s.heap.push (set0 w)).IsTuple c items := ⟨_, hob1, rfl, n, rfl⟩
  unfold Builtin.«set.__init__» noKeywords Builtin.Frozenset.updateFrom
  generalize gq : pyIter = PI
  wp_walk
  subst gq
  refine wpAny_pyIter_tuple isl ?_
  refine wpAny_bind (wpAny_runValue ?_)
  have h3 : B.in1.in1.handled = none := by simp [hh]
  have lt : c < s.heap.objs.size := Heap.lt_size hob
  have z1 : (s.heap.push (set0 w)).objs.size = s.heap.objs.size + 1 := Heap.size_push ..
  have nI : c ≠ (s.heap.push (set0 w)).objs.size := by rw [z1]; exact Nat.ne_of_lt (Nat.lt_succ_of_lt lt)
  have nS : s.heap.objs.size ∉ [(s.heap.push (set0 w)).objs.size, c] := by
    rw [z1]
    simp only [List.mem_cons, List.not_mem_nil, or_false, not_or]
    exact ⟨Nat.ne_of_lt (Nat.lt_succ_self _), Nat.ne_of_gt lt⟩
  have get0 : (s.heap.push (set0 w)).get? s.heap.objs.size = some (set0 w) := Heap.get?_push_size _ rfl
  refine loop_txt ((Walks.tuple h3 _ c nI items).toS) s.heap.objs.size nS xs len (by omega) (fun i v q => val i v (by rw [Array.getElem?_toList]; exact q)) (items.size - 0) 0 _ (by omega) (Nat.zero_le _)
    ⟨⟨_, Heap.get?_push_size _ rfl, rfl, rfl⟩, isl.push _⟩ ⟨[], txr_new (Heap.get?_push_of_some _ get0), fun z => by simp, Nat.le_refl 0⟩ fun s' l mv T m => ?_
  have q := fill_end (R := R) z1 hR (fun b o e => Heap.get?_push_of_some _ (Heap.get?_push_of_some _ e)) mv T m
  show wpAny _ _ _ _ _ _
  refine wpAny_pure ?_
  show wpAny _ _ (ret Value.none) _ _ _
  exact wpAny_pure q

set_option maxHeartbeats 3200000 in
/-- set(xs), xs a list or tuple of texts -/
theorem set_call {Q : Value → Shared → Prop} (hh : A.handled = none) (fill : Fills P w s c xs)
    (h : ∀ (h' : Heap) (tk : Nat) (l : List Str), TxR P w h' s.heap.objs.size l → (∀ z, z ∈ l ↔ z ∈ xs) → (∀ b o, s.heap.get? b = some o → h'.get? b = some o) → Q (.ref s.heap.objs.size) { s with heap := h', toks := tk }) :
    wpAny (model P w) A (call (.type "set") [.ref c]) Q E s := by
  obtain ⟨c0, tl, hmro⟩ := F.called_set.mro
  have hmade := F.called_set.made
  have hsub := F.called_set.sub
  refine wpAny_call (codeAny_of_tree ?_)
  show wpAny _ _ (callAny (.type "set") _) _ _ _
  refine wpAny_pure ⟨Code.quiet_builtin _ (by decide +kernel), codeAny_builtin F.entry_type_call ?_⟩
  rw [Around.under_plain (weight_type_call_type "set" [.ref c] []) rfl]
  have h1 := F.called_set.notType
  have h2 := F.called_set.canCreate
  have h3 := F.typeCall_set_1 (.ref c)
  repeat (any_goals (first | assumption | wp_step))
  refine codeAny_mono (code_set_led1 (.ref c) (E := E) (Q₁ := fun obj s₁ => obj = .ref s.heap.objs.size ∧ s₁ = { s with heap := s.heap.push (set0 w) }) ⟨rfl, rfl⟩) fun r s1 hr => ?_
  rcases r with e | fl
  · exact hr
  rcases fl with _ | _ | _ | obj
  all_goals try exact hr.elim
  obtain ⟨rfl, rfl⟩ := hr
  have hS : (s.heap.push (set0 w)).get? s.heap.objs.size = some (set0 w) := Heap.get?_push_size _ rfl
  have tS : Shared.TypeIs { s with heap := s.heap.push (set0 w) } (.ref s.heap.objs.size) "set" := ⟨_, hS, rfl⟩
  have i1 := F.called_set.init.lookup
  have i2 := F.called_set.init.bind (.ref s.heap.objs.size)
  repeat (any_goals (first | assumption | wp_step))
  refine codeAny_mono (codeAny_call_builtin (R := wants (fun r s₂ => r = .none ∧ ∃ h' tk l, s₂ = { s with heap := h', toks := tk } ∧ TxR P w h' s.heap.objs.size l ∧ (∀ z, z ∈ l ↔ z ∈ xs) ∧ (∀ b o, s.heap.get? b = some o → h'.get? b = some o)) E)
    F.called_set.init.plain F.entry_set_init (check_set_init_1 tS ?_)) fun r2 s2 h2 => ?_
  · refine wpAny_mono (fill A.in1 (wants (fun r s₂ => r = .none ∧ ∃ h' tk l, s₂ = { s with heap := h', toks := tk } ∧ TxR P w h' s.heap.objs.size l ∧ (∀ z, z ∈ l ↔ z ∈ xs) ∧ (∀ b o, s.heap.get? b = some o → h'.get? b = some o)) E) (by simp [hh])
      fun h' tk l T m k => ⟨rfl, h', tk, l, rfl, T, m, k⟩) (fun fin s' q => ?_) fun _ _ q => q
    cases fin <;> exact q
  · rcases r2 with e | fl
    · exact h2
    rcases fl with _ | _ | _ | obj
    all_goals try exact h2.elim
    obtain ⟨rfl, h', tk, l, rfl, R, m, k⟩ := h2
    repeat (any_goals (first | assumption | wp_step))
    exact h _ _ _ R m k

theorem strs_get {l : List Str} : ∀ {vs : List Value}, (∀ v ∈ vs, ∃ x t, v = .str x t) → ∃ ys, StrsAre vs ys
  | [], _ => ⟨[], .nil⟩
  | v :: vs, h => by
    obtain ⟨x, t, rfl⟩ := h v List.mem_cons_self
    obtain ⟨ys, q⟩ := strs_get (l := l) fun u hu => h u (List.mem_cons_of_mem _ hu)
    exact ⟨x :: ys, .cons x t q⟩
theorem strs_mem {x : Str} : ∀ {vs : List Value} {ys : List Str}, StrsAre vs ys → (x ∈ ys ↔ ∃ t, Value.str x t ∈ vs)
  | _, _, .nil => by simp
  | _, _, .cons y t h => by
    rw [List.mem_cons, strs_mem h]
    constructor
    · rintro (rfl | ⟨u, q⟩)
      · exact ⟨t, List.mem_cons_self⟩
      · exact ⟨u, List.mem_cons_of_mem _ q⟩
    · rintro ⟨u, q⟩
      rcases List.mem_cons.mp q with e | q
      · injection e with e _
        exact .inl e
      · exact .inr ⟨u, q⟩

/-- sorted(a set of texts) -/
theorem sorted_txr {a : Addr} {l : List Str} {Q : Value → Shared → Prop} (T : TxR P w s.heap a l) (hh : A.handled = none)
    (hQ : ∀ s' p (out : Array Value) (c : Nat) (ys : List Str), (∀ b o, s.heap.get? b = some o → s'.heap.get? b = some o) → s'.gens = s.gens → s'.os = s.os → s.heap.objs.size ≤ p →
      s'.heap.get? p = some (seqObj "list" out c) → StrsAre out.toList ys → sortedS ys = true → (∀ z, z ∈ ys ↔ z ∈ l) → ys.length = l.length → Q (.ref p) s') :
    wpAny (model P w) A (call (.builtin "sorted") [.ref a]) Q E s := by
  obtain ⟨⟨⟨es, ep, t⟩, ho, F, r, fl⟩, nd, few⟩ := T
  have zz : es.size = l.length := F.sz
  refine Calls.call_function_entry kind_sorted plain_sorted entry_sorted (args_sorted1 _) ?_
  unfold Builtin.«sorted»
  refine wpAny_bind (m := checkCount "sorted" 1 1 _) (wpAny_pure ?_)
  refine wpAny_bind (collect_set (A := A.in1) hh ⟨_, ho, rfl, rfl⟩ F.fit (by rw [zz]; exact few) r fl fun s1 vs k1 hz g1 o1 pm => ?_)
  have all : ∀ v ∈ vs, ∃ x t, v = .str x t := fun v hv => by
    obtain ⟨e, he, rfl⟩ := List.mem_map.mp (pm.mem_iff.mp hv)
    obtain ⟨⟨x, hx, _⟩, _⟩ := F.el e he
    obtain ⟨t, q⟩ := Value.isStrOf_shape (x := x) (v := e.2) hx
    exact ⟨x, t, q⟩
  obtain ⟨ws, hS⟩ := strs_get (l := l) all
  have len := (strs_val hS).1
  have lvs : vs.length = l.length := by rw [pm.length_eq, List.length_map, Array.length_toList]; exact zz
  have mem : ∀ z, z ∈ ws ↔ z ∈ l := fun z => by
    rw [strs_mem hS, F.mem z]
    constructor
    · rintro ⟨t, q⟩
      obtain ⟨e, he, e2⟩ := List.mem_map.mp (pm.mem_iff.mp q)
      exact ⟨e, he, by rw [e2]; exact is_str z t⟩
    · rintro ⟨e, he, q⟩
      obtain ⟨t, e2⟩ := Value.isStrOf_shape (x := z) (v := e.2) q
      exact ⟨t, pm.mem_iff.mpr (List.mem_map.mpr ⟨e, he, e2⟩)⟩
  have few2 : vs.length ≤ sizeLine := by rw [lvs]; exact fits_of_scanBound few
  refine wpAny_bind (wpAny_newList ?_ few2)
  have hoL : (s1.heap.push (seqObj "list" vs.toArray 0)).get? s1.heap.objs.size = some (seqObj "list" vs.toArray 0) := Heap.get?_push_size _ rfl
  refine wpAny_bind (wpAny_holding (wpAny_call_entry slot_list_sort ⟨_, hoL, rfl⟩ entry_list_sort (list_sort_treeKAny strKind_oneLt hoL hS.keysOf (fun v₁ v₂ rest e => keyKind_strs (by rw [← e]; exact hS)) few2 fun st' hp hs => ⟨_, rfl, ?_⟩) (args_list_sort _)))
  obtain ⟨ys, g1', g2, g3⟩ := sorted_out_str hS hp hs
  obtain ⟨c, hc⟩ := sortedHeap_at (vs := vs) (out := (arrOf st').map (·.2)) hoL
  refine wpAny_pure ⟨_, rfl, hQ _ s1.heap.objs.size _ c ys (fun b u e => ?_) g1 o1 hz hc g1' g3 (fun z => by rw [g2.mem_iff, mem z]) (by rw [g2.length_eq, ← len, lvs])⟩
  have q := k1 b u e
  have lt := Heap.lt_size q
  show (sortedHeap (s1.heap.push (seqObj "list" vs.toArray 0)) s1.heap.objs.size vs _).get? b = some u
  rw [sortedHeap_old (Nat.ne_of_lt lt) (by rw [size_push']; exact Nat.lt_succ_of_lt lt)]
  exact Heap.get?_push_of_some _ q
end
end

/-! ### over the hand layer -/
section
variable {X : Cx}
def TxO (P : Program) (w : World) (a : Addr) (l : List Str) : HO := .ext fun h => TxR P w h a l
theorem txo_new {P : Program} {w : World} {H : Hp} {h : Heap} {a : Addr} {l : List Str} (R : TxR P w h a l) : ObjOk P w H h a (TxO P w a l) :=
  ⟨R, let ⟨⟨_, e, _⟩, _⟩ := R; ⟨_, e⟩, fun _ _ q k => q.keep k⟩

/-- set(xs) of a list or tuple of texts -/
def rSetS (K : PySem.W.Frag) (P : Program) (w : World) : List V → Hp → VK → Prop := fun vs H Q => ∃ (c : Addr) (xs : List Str), vs = [.ref c] ∧ (SqL K H c (xs.map V.str) ∨ SqT K H c (xs.map V.str)) ∧ xs.length < 4000 ∧
  ∀ (p : Addr) (l : List Str), H p = none → l.Nodup → (∀ z, z ∈ l ↔ z ∈ xs) → Q (.ref p) (upd H p (TxO P w p l))
theorem cr_setS (hc : X.calm = true) : CallR X (.type "set") (rSetS X.K X.prog X.w) := by
  intro pins s σ H vs us Q I r h
  obtain ⟨c, xs, rfl, hs, few, q⟩ := h
  rw [Vals.ref1 r]
  have hn : H s.heap.objs.size = none := I.hok.fresh (Nat.le_refl _)
  have fill : Fills X.prog X.w s c xs := by
    rcases hs with hs | hs
    · obtain ⟨its, rv, pl, hz⟩ := I.list hs
      exact fills_list pl.isList (by simpa using rv.strs) (by unfold scanBound; omega)
    · obtain ⟨its, rv, pl, hz⟩ := I.tuple hs
      exact fills_tuple pl (by simpa using rv.strs) (by unfold scanBound; omega)
  refine set_call (I.ok.hd hc) fill fun h' tk l T m k => ?_
  exact ⟨.ref s.heap.objs.size, _, I.laid (t' := tk) k (Nat.le_refl _) (txo_new T), rfl, q _ l hn T.2.1 m⟩

/-- sorted(a set of texts) -/
def rSortedX (P : Program) (w : World) : List V → Hp → VK → Prop := fun vs H Q => ∃ (a : Addr) (l : List Str), vs = [.ref a] ∧ H a = some (TxO P w a l) ∧
  ∀ (ys : List Str) (p : Addr), sortedS ys = true → (∀ z, z ∈ ys ↔ z ∈ l) → ys.length = l.length → H p = none → Q (.ref p) (upd H p (.lst (ys.map V.str)))
theorem cr_sortedX (hc : X.calm = true) : CallR X (.builtin "sorted") (rSortedX X.prog X.w) := by
  intro pins s σ H vs us Q I r h
  obtain ⟨a, l, rfl, ha, q⟩ := h
  have T : TxR X.prog X.w s.heap a l := (I.hok a _ ha).1
  rw [Vals.ref1 r]
  refine sorted_txr T (I.ok.hd hc) fun s' p out c ys k g o hp hg hS so m len => ?_
  have hn : H p = none := I.hok.fresh hp
  have few : (ys.map V.str).length ≤ sizeLine := by rw [List.length_map, len]; exact fits_of_scanBound T.2.2
  have J : Inv X pins σ (upd H p (.lst (ys.map V.str))) { s with heap := s'.heap, gens := s'.gens, drawn := s'.drawn, toks := s'.toks } :=
    I.call (ch := []) (Un.laid k hp hn) (I.hok.laid k hp ⟨few, out.toList, c, vals_of_strs hS, hg⟩) (by rw [g]; exact I.bare) fun _ z => nomatch z
  have e : s' = { s with heap := s'.heap, gens := s'.gens, drawn := s'.drawn, toks := s'.toks } := by
    rcases s' with ⟨_, _, _, _, _⟩
    cases o
    rfl
  rw [e]
  exact ⟨.ref p, _, J, rfl, q ys p so m len hn⟩
end
end Mf
/-! Sorted texts: the order, and that a sorted row without repeats is the only one of its members. -/
namespace Mf
open PySem L2
theorem lt_irr : ∀ l : List Nat, Spec.ltCps l l = false
  | [] => rfl
  | a :: r => by
    show (decide (a < a) || (a == a && Spec.ltCps r r)) = false
    rw [lt_irr r]; simp
theorem lt_asym : ∀ l m : List Nat, Spec.ltCps l m = true → Spec.ltCps m l = false
  | [], [], h => rfl
  | [], _ :: _, _ => rfl
  | _ :: _, [], h => by cases h
  | a :: r, b :: t, h => by
    have h : (decide (a < b) || (a == b && Spec.ltCps r t)) = true := h
    show (decide (b < a) || (b == a && Spec.ltCps t r)) = false
    simp only [Bool.or_eq_true, decide_eq_true_eq, Bool.and_eq_true, beq_iff_eq] at h
    simp only [Bool.or_eq_false_iff, decide_eq_false_iff_not, Bool.and_eq_false_iff, beq_eq_false_iff_ne]
    rcases h with h2 | ⟨rfl, h2⟩
    · exact ⟨by omega, .inl (by omega)⟩
    · exact ⟨by omega, .inr (lt_asym r t h2)⟩
theorem lt_tri : ∀ l m : List Nat, Spec.ltCps l m = false → Spec.ltCps m l = false → l = m
  | [], [], _, _ => rfl
  | [], _ :: _, h, _ => by cases h
  | _ :: _, [], _, h => by cases h
  | a :: r, b :: t, h, g => by
    have h : (decide (a < b) || (a == b && Spec.ltCps r t)) = false := h
    have g : (decide (b < a) || (b == a && Spec.ltCps t r)) = false := g
    simp only [Bool.or_eq_false_iff, decide_eq_false_iff_not, Bool.and_eq_false_iff, beq_eq_false_iff_ne] at h g
    obtain rfl : a = b := by omega
    rw [lt_tri r t (h.2.resolve_left fun n => n rfl) (g.2.resolve_left fun n => n rfl)]
theorem lt_trans : ∀ l m n : List Nat, Spec.ltCps l m = true → Spec.ltCps m n = true → Spec.ltCps l n = true
  | [], [], _, h, _ => by cases h
  | [], _ :: _, [], _, h => by cases h
  | [], _ :: _, _ :: _, _, _ => rfl
  | _ :: _, [], _, h, _ => by cases h
  | _ :: _, _ :: _, [], _, h => by cases h
  | a :: r, b :: t, c :: u, h, g => by
    have h : (decide (a < b) || (a == b && Spec.ltCps r t)) = true := h
    have g : (decide (b < c) || (b == c && Spec.ltCps t u)) = true := g
    show (decide (a < c) || (a == c && Spec.ltCps r u)) = true
    simp only [Bool.or_eq_true, decide_eq_true_eq, Bool.and_eq_true, beq_iff_eq] at h g ⊢
    rcases h with h2 | ⟨rfl, h2⟩
    · rcases g with g2 | ⟨rfl, g2⟩
      · left; omega
      · left; exact h2
    · rcases g with g2 | ⟨rfl, g2⟩
      · left; exact g2
      · right; exact ⟨rfl, lt_trans r t u h2 g2⟩
def Lt (x y : Str) : Prop := Spec.ltCps x.cps.toList y.cps.toList = true
theorem Lt.ne {x y : Str} (h : Lt x y) : x ≠ y := fun e => by subst e; unfold Lt at h; rw [lt_irr] at h; cases h
theorem Lt.asymm {x y : Str} (h : Lt x y) : ¬ Lt y x := fun g => by unfold Lt at h g; rw [lt_asym _ _ h] at g; cases g
theorem Lt.trans {x y z : Str} (h : Lt x y) (g : Lt y z) : Lt x z := lt_trans _ _ _ h g
theorem not_lt {x y : Str} (h : Spec.ltCps y.cps.toList x.cps.toList = false) (n : x ≠ y) : Lt x y := by
  unfold Lt
  cases e : Spec.ltCps x.cps.toList y.cps.toList with
  | true => rfl
  | false => exact absurd (tl_inj (lt_tri _ _ e h)) n
/-- in order, each once -/
def Up (l : List Str) : Prop := l.Pairwise Lt
theorem Up.nd {l : List Str} (h : Up l) : l.Nodup := List.Pairwise.imp (fun h => h.ne) h
theorem rising_up : ∀ (l : List Str) (p : Str), PyProof.Rows.risingS p l = true → (p :: l).Nodup → Up (p :: l)
  | [], p, _, _ => List.pairwise_singleton _ _
  | x :: r, p, h, nd => by
    have h : (!Spec.ltCps x.cps.toList p.cps.toList && PyProof.Rows.risingS x r) = true := h
    obtain ⟨h1, h2⟩ := Bool.and_eq_true_iff.mp h
    obtain ⟨n1, n2⟩ := List.nodup_cons.mp nd
    have u := rising_up r x h2 n2
    have px : Lt p x := not_lt (by simpa using h1) fun e => n1 (e ▸ List.mem_cons_self)
    refine List.pairwise_cons.mpr ⟨fun y hy => ?_, u⟩
    rcases List.mem_cons.mp hy with rfl | hy
    · exact px
    · exact px.trans ((List.pairwise_cons.mp u).1 y hy)
theorem up_of {l : List Str} (h : PyProof.Rows.sortedS l = true) (nd : l.Nodup) : Up l := by
  cases l with
  | nil => exact List.Pairwise.nil
  | cons x r => exact rising_up r x h nd
theorem up_one : ∀ {xs ys : List Str}, Up xs → Up ys → (∀ z, z ∈ xs ↔ z ∈ ys) → xs = ys
  | [], [], _, _, _ => rfl
  | [], y :: _, _, _, h => absurd ((h y).mpr List.mem_cons_self) (by simp)
  | x :: _, [], _, _, h => absurd ((h x).mp List.mem_cons_self) (by simp)
  | x :: xs, y :: ys, u, v, h => by
    obtain ⟨u1, u2⟩ := List.pairwise_cons.mp u
    obtain ⟨v1, v2⟩ := List.pairwise_cons.mp v
    have e : x = y := by
      rcases List.mem_cons.mp ((h x).mp List.mem_cons_self) with e | m
      · exact e
      · rcases List.mem_cons.mp ((h y).mpr List.mem_cons_self) with e | m'
        · exact e.symm
        · exact absurd (u1 y m') (v1 x m).asymm
    subst e
    rw [up_one u2 v2 fun z => ?_]
    constructor
    · intro m
      rcases List.mem_cons.mp ((h z).mp (List.mem_cons_of_mem _ m)) with e | q
      · exact absurd e.symm (u1 z m).ne
      · exact q
    · intro m
      rcases List.mem_cons.mp ((h z).mpr (List.mem_cons_of_mem _ m)) with e | q
      · exact absurd e.symm (v1 z m).ne
      · exact q
theorem nodup_le {α : Type} [DecidableEq α] : ∀ {l m : List α}, l.Nodup → l ⊆ m → l.length ≤ m.length
  | [], _, _, _ => Nat.zero_le _
  | x :: l, m, nd, sub => by
    obtain ⟨n1, n2⟩ := List.nodup_cons.mp nd
    have hx : x ∈ m := sub List.mem_cons_self
    have ih := nodup_le (m := m.erase x) n2 fun y hy => (List.mem_erase_of_ne (by rintro rfl; exact n1 hy)).mpr (sub (List.mem_cons_of_mem _ hy))
    rw [List.length_erase_of_mem hx] at ih
    have := List.length_pos_of_mem hx
    rw [List.length_cons]
    omega
theorem nodup_len {α : Type} [DecidableEq α] : ∀ {ys l : List α}, l.Nodup → l ⊆ ys → ys.length = l.length → ys.Nodup
  | [], _, _, _, _ => List.nodup_nil
  | y :: ys, l, nd, sub, e => by
    have hy : y ∈ l := Classical.byContradiction fun n => by
      have q := nodup_le (m := ys) nd fun z hz => (List.mem_cons.mp (sub hz)).resolve_left (by rintro rfl; exact n hz)
      rw [List.length_cons] at e
      omega
    have ny : y ∉ ys := fun m => by
      have q := nodup_le (m := ys) nd fun z hz => by
        rcases List.mem_cons.mp (sub hz) with rfl | h
        · exact m
        · exact h
      rw [List.length_cons] at e
      omega
    refine List.nodup_cons.mpr ⟨ny, nodup_len (l := l.erase y) (nd.erase y) (fun z hz => ?_) ?_⟩
    · obtain ⟨h1, h2⟩ := (nd.mem_erase_iff).mp hz
      exact (List.mem_cons.mp (sub h2)).resolve_left h1
    · rw [List.length_erase_of_mem hy, ← e, List.length_cons]; rfl
theorem sum_len {ys : List Str} {B : Nat} (h : ∀ y ∈ ys, y.length ≤ B) : (ys.map (·.length)).sum ≤ ys.length * B := by
  induction ys with
  | nil => simp
  | cons y ys ih =>
    rw [List.map_cons, List.sum_cons, List.length_cons, Nat.succ_mul]
    have a := h y List.mem_cons_self
    have b := ih fun z hz => h z (List.mem_cons_of_mem _ hz)
    omega
theorem flat_strs (zs : List Str) : (zs.map V.str).all flatV = true := by rw [List.all_map]; exact List.all_eq_true.mpr fun _ _ => rfl

/-! ### data that are compared -/
theorem dpS {K : PySem.W.Frag} {H : Hp} : ∀ zs : List Str, DpAll K H (zs.map V.str) (zs.map PyData.str)
  | [] => .nil
  | z :: zs => .cons (.str z) (dpS zs)
theorem dpB {K : PySem.W.Frag} {H : Hp} : ∀ bs : List Bool, DpAll K H (bs.map V.bl) (bs.map PyData.bool)
  | [] => .nil
  | b :: bs => .cons (.bl b) (dpB bs)
theorem eqvB : ∀ bs cs : List Bool, PyData.eqvAll (bs.map PyData.bool) (cs.map PyData.bool) = decide (bs = cs)
  | [], [] => rfl
  | [], _ :: _ => rfl
  | _ :: _, [] => rfl
  | b :: bs, c :: cs => by
    show ((b == c) && PyData.eqvAll (bs.map PyData.bool) (cs.map PyData.bool)) = _
    rw [eqvB bs cs]
    by_cases h : b = c <;> simp [h]
theorem eqvS : ∀ bs cs : List Str, PyData.eqvAll (bs.map PyData.str) (cs.map PyData.str) = decide (bs = cs)
  | [], [] => rfl
  | [], _ :: _ => rfl
  | _ :: _, [] => rfl
  | b :: bs, c :: cs => by
    show ((b == c) && PyData.eqvAll (bs.map PyData.str) (cs.map PyData.str)) = _
    rw [eqvS bs cs]
    by_cases h : b = c <;> simp [h]
theorem layB : ∀ bs : List Bool, PyData.canLayAll0 (bs.map PyData.bool) = true
  | [] => rfl
  | b :: bs => by show (true && PyData.canLayAll0 (bs.map PyData.bool)) = true; rw [layB bs]; rfl
theorem layS : ∀ zs : List Str, (∀ z ∈ zs, PyData.strOk z = true) → PyData.canLayAll0 (zs.map PyData.str) = true
  | [], _ => rfl
  | z :: zs, h => by
    show (PyData.strOk z && PyData.canLayAll0 (zs.map PyData.str)) = true
    rw [h z List.mem_cons_self, layS zs fun y hy => h y (List.mem_cons_of_mem _ hy)]; rfl
theorem depAll : ∀ {ds : List PyData}, (∀ d ∈ ds, PyData.depth d = 0) → PyData.depthAll ds = 0
  | [], _ => rfl
  | d :: ds, h => by
    show max (PyData.depth d) (PyData.depthAll ds) = 0
    rw [h d List.mem_cons_self, depAll fun y hy => h y (List.mem_cons_of_mem _ hy)]; rfl
theorem shB (bs : List Bool) : SeqAt.shaped (.list (bs.map PyData.bool)) = true := by
  refine Bool.and_eq_true_iff.mpr ⟨layB bs, decide_eq_true ?_⟩
  show PyData.depthAll (bs.map PyData.bool) + 1 ≤ 64
  rw [depAll fun d hd => by obtain ⟨b, _, rfl⟩ := List.mem_map.mp hd; rfl]
  decide
theorem shT {zs : List Str} (h : ∀ z ∈ zs, PyData.strOk z = true) : SeqAt.shaped (.tuple (zs.map PyData.str)) = true := by
  refine Bool.and_eq_true_iff.mpr ⟨layS zs h, decide_eq_true ?_⟩
  show PyData.depthAll (zs.map PyData.str) + 1 ≤ 64
  rw [depAll fun d hd => by obtain ⟨b, _, rfl⟩ := List.mem_map.mp hd; rfl]
  decide
theorem shL {zs : List Str} (h : ∀ z ∈ zs, PyData.strOk z = true) : SeqAt.shaped (.list (zs.map PyData.str)) = true := by
  refine Bool.and_eq_true_iff.mpr ⟨layS zs h, decide_eq_true ?_⟩
  show PyData.depthAll (zs.map PyData.str) + 1 ≤ 64
  rw [depAll fun d hd => by obtain ⟨b, _, rfl⟩ := List.mem_map.mp hd; rfl]
  decide
theorem IsName.ok {z : Str} (h : IsName z) : PyData.strOk z = true := by
  show z.cps.all (fun x => decide (x < 1114112)) = true
  rw [← Array.all_toList, List.all_eq_true]
  intro c hc
  have := (h.2.2 c hc).2
  exact decide_eq_true (by omega)
end Mf
/-! Classes and methods by one fact each; readings of the own operators. -/
namespace Mf
open PySem L2
/-- C(..): the class at C, its __init__'s promise, the defaults that fill up -/
structure CalC (P : Program) (w : World) (K : PySem.W.Frag) (mg : Str → Option Value) (base : Heap) (CX : CXT) (k : Nat) (x : Str) (C : Addr) (ps : List Str) (sp : Sp) (dvs : List V) : Prop where
  ex : ∃ (f : Addr) (fd : FuncData) (ds : List Value), Mk K C f ∧ FnOk P w K mg base CX k f fd ps sp ∧ mg x = some (.ref C) ∧ Binds K fd ps ds ∧ Vals dvs ds
/-- a method -/
structure CalM (P : Program) (w : World) (K : PySem.W.Frag) (mg : Str → Option Value) (base : Heap) (CX : CXT) (k : Nat) (C : Addr) (m : Str) (ps : List Str) (sp : Sp) : Prop where
  ex : ∃ (f : Addr) (fd : FuncData), Meth K C m f ∧ PySem.W.fnIn K f = true ∧ FnOk P w K mg base CX k f fd ps sp ∧ Binds K fd ps []
section
variable {X : Cx} {CX : CXT} {k : Nat} {x m : Str} {C : Addr} {ps : List Str} {sp : Sp} {dvs : List V} {E : XK} {e o : Expr} {es : List Expr} {t : TA} {p pos apos : Pos} {ta to ti : TE}
theorem pe_mkc (c : CalC X.prog X.w X.K X.mg X.base CX k x C ps sp dvs) (hr : Room (k + 1) X.A) (hx : Passes CX X E) (ha : PA X (e :: es) t) (hg : Gl X x := by rfl)
    (hdb : (x == ("__debug__" : Str)) = false := by decide) (he : starEach (e :: es) X.env = (false, eval e X.env) :: starEach es X.env := by rfl) (hpl : (backTo pos (starEach es X.env)).any (·.1) = false := by rfl) :
    PE X (.Call (.Name x p) (e :: es) [] pos) (tMake C sp dvs E t) := by
  obtain ⟨f, fd, ds, M, F, mm, b, v⟩ := c.ex
  exact pe_make M F hr hg mm b v hx ha hdb he hpl
theorem pe_mkc0 (c : CalC X.prog X.w X.K X.mg X.base CX k x C ps sp dvs) (hr : Room (k + 1) X.A) (hx : Passes CX X E) (hg : Gl X x := by rfl) (hdb : (x == ("__debug__" : Str)) = false := by decide) :
    PE X (.Call (.Name x p) [] [] pos) (tMake C sp dvs E tNil) := by
  obtain ⟨f, fd, ds, M, F, mm, b, v⟩ := c.ex
  exact pe_make0 M F hr hg mm b v hx hdb
theorem om_cmp {op : CmpOp} (K : PySem.W.Frag) (c : CalM X.prog X.w X.K X.mg X.base CX k C (cmpInfo op).2.1 ps sp) (hr : Room k X.A) (hx : Passes CX X E) (hop : ∀ a b, compareOp op a b = richCompare op a b := by exact fun _ _ => rfl) (h : X.K = K := by rfl) : OpR X (compareOp op) (rCmpO K C sp E) := by
  obtain ⟨f, fd, M, _, F, b⟩ := c.ex
  exact h ▸ op_cmpO M F hr b hx hop
theorem om_ne (K : PySem.W.Frag) (c : CalM X.prog X.w X.K X.mg X.base CX k C "__eq__" ps sp) (ne : PySem.W.findIn X.K (.ref C) "__ne__" = some (some (.builtin "object.__ne__"))) (mo : PySem.W.mroIn X.K C (.type "object") = some true)
    (hr : Room (k + 1) X.A) (hx : Passes CX X E) (h : X.K = K := by rfl) : OpR X (compareOp .NotEq) (rNeO K C sp E) := by
  obtain ⟨f, fd, M, _, F, b⟩ := c.ex
  exact h ▸ op_neO M ne mo F hr b hx
theorem om_bin {op : Operator} (c : CalM X.prog X.w X.K X.mg X.base CX k C (PySem.dunder op.info.2) ps sp) (sf : PySem.W.selfFirst X.K C = true) (hr : Room k X.A) (hx : Passes CX X E) : OpR X (binaryOp op) (rBinO C sp E) := by
  obtain ⟨f, fd, M, _, F, b⟩ := c.ex
  exact op_binO M sf F hr b hx
theorem om_in (c : CalM X.prog X.w X.K X.mg X.base CX k C "__contains__" ps sp) (hr : Room k X.A) (hx : Passes CX X E) : OpR X (compareOp .In) (rInO C false sp E) := by
  obtain ⟨f, fd, M, _, F, b⟩ := c.ex
  exact op_inO M F hr b hx
theorem om_notIn (c : CalM X.prog X.w X.K X.mg X.base CX k C "__contains__" ps sp) (hr : Room k X.A) (hx : Passes CX X E) : OpR X (compareOp .NotIn) (rInO C true sp E) := by
  obtain ⟨f, fd, M, _, F, b⟩ := c.ex
  exact op_notInO M F hr b hx
theorem om_len (c : CalM X.prog X.w X.K X.mg X.base CX k C "__len__" ps sp) (hr : Room (k + 1) X.A) (hx : Passes CX X E) : CallR X (.builtin "len") (rLenO C sp E) := by
  obtain ⟨f, fd, M, _, F, b⟩ := c.ex
  exact call_lenO M F hr b hx
theorem om_get {i : Expr} (c : CalM X.prog X.w X.K X.mg X.base CX k C "__getitem__" ps sp) (hr : Room (k + 1) X.A) (hx : Passes CX X E) (ho : PE X o to) (hi : PE X i ti)
    (hsl : ∀ x y, subscripted i true x y = runValue (.builtin "lifetime.subscript" ⟨[x, y], []⟩) := by intro _ _; with_unfolding_all rfl) : PE X (.Subscript o i pos) (tOp (rGetO C sp E) to ti) := by
  obtain ⟨f, fd, M, fn, F, b⟩ := c.ex
  exact pe_getO M fn F hr b hx ho hi hsl
theorem om_meth {pl : Sem Bool} (he : PE X o ta) (c : Cls X.K C) (cm : CalM X.prog X.w X.K X.mg X.base CX k C m ps sp) (hr : Room k X.A) (hx : Passes CX X E) (ha : PA X (e :: es) t)
    (hst : starEach (e :: es) X.env = (false, eval e X.env) :: starEach es X.env := by rfl) (hpl : (backTo pos (starEach es X.env)).any (·.1) = false := by rfl)
    (ht : eval (.Call (.Attribute o m apos) (e :: es) [] pos) X.env = (do
      let ov ← eval o X.env
      standAt apos.atName
      let (f, first) ← holding [ov] (getMethod ov m pl)
      callWith pos f first (backTo pos (starEach (e :: es) X.env)) (backToKw pos (keywordEach [] X.env))) := by rfl) :
    PE X (.Call (.Attribute o m apos) (e :: es) [] pos) (tMeth C m sp [] E ta t) := by
  obtain ⟨f, fd, M, fn, F, b⟩ := cm.ex
  exact pe_meth he c M F hr b .nil hx ha hst hpl ht
theorem om_meth0 {pl : Sem Bool} (he : PE X o ta) (c : Cls X.K C) (cm : CalM X.prog X.w X.K X.mg X.base CX k C m ps sp) (hr : Room k X.A) (hx : Passes CX X E)
    (ht : eval (.Call (.Attribute o m apos) [] [] pos) X.env = (do
      let ov ← eval o X.env
      standAt apos.atName
      let (f, first) ← holding [ov] (getMethod ov m pl)
      callWith pos f first (backTo pos (starEach [] X.env)) (backToKw pos (keywordEach [] X.env))) := by rfl) :
    PE X (.Call (.Attribute o m apos) [] [] pos) (tMeth C m sp [] E ta tNil) := by
  obtain ⟨f, fd, M, fn, F, b⟩ := cm.ex
  exact pe_meth0 he c M F hr b .nil hx ht
end
/-- c and b, where b is asked without a change of the heap -/
theorem and_then {c b : Bool} {σ : L2.St} {H : Hp} {tb : TE} {Q : VK} (ht : c = true → ∀ Q' : VK, Q' (.bl b) H → tb σ H Q') (k : Q (.bl (c && b)) H) : if c = true then tb σ H Q else Q (.bl false) H := by
  cases c with
  | true => exact iteT (ht rfl Q (by simpa using k))
  | false => exact iteF k
end Mf
/-! From the head's facts to calls. -/
namespace Mf
open PySem L2
theorem kit_self {K : PySem.W.Frag} {C : Addr} : PySem.W.kitOne K (.ref C) (.ref C) = some true := by unfold PySem.W.kitOne; rw [if_pos (by simp)]
theorem kit_own {K : PySem.W.Frag} {C : Addr} {T : String} {b : Bool} (i : PySem.W.isClsIn K C = true) (t : PySem.W.typeIn K (.ref C) = some (.type "type")) (s : PySem.W.subIn K (.type T) (.ref C) = some b) : PySem.W.kitOne K (.type T) (.ref C) = some b := by
  have i' : (PySem.W.clsIn K C).isSome = true := i
  unfold PySem.W.kitOne PySem.W.kitCls
  rw [if_neg (by simp)]
  show (if ((PySem.W.clsIn K C).isSome && PySem.W.typeIn K (.ref C) == some (.type "type")) = true then PySem.W.subIn K (.type T) (.ref C) else none) = some b
  rw [if_pos (by rw [i', t]; rfl)]
  exact s
theorem notFirst_of {K : PySem.W.Frag} {C : Addr} {T : String} (s : PySem.W.subIn K (.type T) (.ref C) = some false) : PySem.W.notFirst K C (.type T) = true := by
  unfold PySem.W.notFirst
  rw [s]; simp
/-- a def of the text as it stands behind the top -/
structure DefF (K : PySem.W.Frag) (x : Str) (st : Stmt) (f : Addr) : Prop where
  ex : ∃ (oc : Value) (od : Option Addr) (sl : Array (Option Value)) (kV dc pm : Value) (an : Option Addr) (cd ct : Value), PySem.W.nsIn K mainGlobals x = some (some (.ref f)) ∧
    K.lookup f = some ⟨oc, od, .func (PySem.W.fnOf x x (defArgs st) (defBody st) (defScope st) .none kV dc pm an cd ct), sl⟩ ∧ PySem.W.codeIn K cd x = true ∧ PySem.W.keepIn K (.ref f) = true
/-- a method of the class at C -/
structure MetF (K : PySem.W.Frag) (C : Addr) (m qual : Str) (st : Stmt) (f : Addr) : Prop where
  ex : ∃ (oc : Value) (od : Option Addr) (sl : Array (Option Value)) (kV dc pm : Value) (an : Option Addr) (cd ct : Value), PySem.W.findIn K (.ref C) m = some (some (.ref f)) ∧
    K.lookup f = some ⟨oc, od, .func (PySem.W.fnOf m qual (defArgs st) (defBody st) (defScope st) .none kV dc pm an cd ct), sl⟩ ∧ PySem.W.codeIn K cd qual = true ∧ PySem.W.keepIn K (.ref f) = true ∧ PySem.W.isFn K (.ref f) = true ∧ PySem.W.fnIn K f = true
section
variable {P : Program} {w : World} {K : PySem.W.Frag} {mg : Str → Option Value} {base h : Heap} {CX : CXT} {k : Nat} {x m qual : Str} {st : Stmt} {f C : Addr} {ps : List Str} {sp : Sp}
abbrev BindP (x qual : Str) (st : Stmt) (ps : List Str) : Prop := ∀ (kV doc pm : Value) (an : Option Addr) (cdv ct : Value) (us : List Value), us.length = ps.length → bindArgs (PySem.W.fnOf x qual (defArgs st) (defBody st) (defScope st) .none kV doc pm an cdv ct) ⟨us, []⟩ = pure (ps.zip us)
theorem DefF.cal (D : DefF K x st f) (X : K.In h) (G : h.Ns mainGlobals mg) (hb : BindP x x st ps) (ok : ∀ fd, Fun K x x st f fd → FnOk P w K mg base CX k f fd ps sp) : Cal P w K mg base CX k x ps sp := by
  obtain ⟨oc, od, sl, kV, dc, pm, an, cd, ct, a, l, c, q⟩ := D.ex
  have F := fun_mk (st := st) l c q
  exact ⟨⟨f, _, ok _ F, PySem.W.mg_of X G a, q, F.binds hb⟩⟩
theorem MetF.cal (D : MetF K C m qual st f) (hb : BindP m qual st ps) (ok : ∀ fd, Fun K m qual st f fd → FnOk P w K mg base CX k f fd ps sp) : CalM P w K mg base CX k C m ps sp := by
  obtain ⟨oc, od, sl, kV, dc, pm, an, cd, ct, a, l, c, q, i, n⟩ := D.ex
  have F := fun_mk (st := st) l c q
  exact ⟨⟨f, _, ⟨a, i, q⟩, n, ok _ F, F.binds hb⟩⟩
/-- the law itself -/
theorem DefF.law {fa : Addr} (D : DefF K "law" st f) (X : K.In h) (G : h.Ns mainGlobals mg) (hfa : mg "law" = some (.ref fa)) (hb : ∀ (kV doc pm : Value) (an : Option Addr) (cdv ct : Value) (s : Shared) (v : Value), BindsTo s (PySem.W.fnOf "law" "law" (defArgs st) (defBody st) (defScope st) .none kV doc pm an cdv ct) ⟨[v], []⟩ [("_law_script", v)])
    (ok : ∀ base : Heap, K.In base → base.Ns mainGlobals mg → ∀ fd, Fun K "law" "law" st f fd → FnOk P w K mg base CX0 k f fd ["_law_script"] sp) :
    ∃ fd : FuncData, (∀ (s : Shared) (v : Value), BindsTo s fd ⟨[v], []⟩ [("_law_script", v)]) ∧ ∀ base : Heap, K.In base → base.Ns mainGlobals mg → FnOk P w K mg base CX0 k fa fd ["_law_script"] sp := by
  obtain ⟨oc, od, sl, kV, dc, pm, an, cd, ct, a, l, c, q⟩ := D.ex
  have e := hfa.symm.trans (PySem.W.mg_of X G a)
  cases e
  exact ⟨_, hb kV dc pm an cd ct, fun base b1 b2 => ok base b1 b2 _ (fun_mk (st := st) l c q)⟩
/-- what a law takes and gives -/
def spLaw (K : PySem.W.Frag) : Sp := fun vs H Q _ => ∃ (a : Addr) (ns : List Int), vs = [.ref a] ∧ SqL K H a (ns.map V.int) ∧ ns.length ≤ 63 ∧ ∀ H', Q (.bl true) H'
end
theorem walk {n : Nat} {l : PySem.W.OpenLaw} {q : Program} {loose : List Str} {XP : (Str → Option Value) → Heap → Prop} {YP : World → Heap → Prop} {d : DefRec} {K : Params → PySem.W.Frag} (hn : l.most = some 63) (hdf : d.params.defaults = [])
    (hr : Room n callerA)
    (hY : ∀ (w : World) (h : Heap), YP w h → (K w.params).In h)
    (F : ∀ (w : World) (mg : Str → Option Value) (fa : Addr) (h : Heap), (K w.params).In h → h.Ns mainGlobals mg → mg d.name = some (.ref fa) →
      ∃ fd : FuncData, (∀ (s : Shared) (u : Value), BindsTo s fd ⟨[u], []⟩ [("_law_script", u)]) ∧ ∀ base : Heap, (K w.params).In base → base.Ns mainGlobals mg → FnOk l.prog w (K w.params) mg base CX0 n fa fd ["_law_script"] (spLaw (K w.params))) :
    PySem.W.WalkO q loose XP YP l.row.toRowW d [] (fun f vs => PySem.call f vs) :=
  L2.walk_of (n := 63) (k := n) (x := "_law_script") (CX := fun _ => CX0) (sp := fun w => spLaw (K w.params)) hn (by decide) hdf hr hY F (fun _ _ a ns hl _ hS => ⟨a, ns, rfl, hS, hl, fun _ => rfl⟩) fun _ _ _ _ _ z => z
end Mf
/-! Counting loops that begin at another number. -/
namespace Mf
open PySem L2

/-- what such a loop yields; G i H x: the i-th thing is x -/
def ItN (k₀ : Int) (go : Nat → Hp → Prop) (stop : Nat → Hp → Prop) (is : Nat → Hp → V → Prop) : It :=
  { go := go, stop := stop, yld := fun i H v H' => ∃ T x, v = .ref T ∧ H T = none ∧ H' = upd H T (.tup [.int (k₀ + i), x]) ∧ is i H x }

/-- the turns, over any source that draws -/
theorem turn_from {P : Program} {w : World} {K : W.Frag} {elts : List PySem.Expr} {kk : Nat} {tpos : Pos} (k₀ : Int) (e it : Addr)
    {go stop : Nat → Hp → Prop} {is : Nat → Hp → V → Prop} {SI : Nat → Heap → Prop}
    (obj : ∀ i h, SI i h → ∃ o, h.get? it = some o ∧ ∀ v : Option Value, o.data ≠ .cell v)
    (keep : ∀ i h h', SI i h → (∀ o, h.get? it = some o → h'.get? it = some o) → SI i h')
    (src : ∀ (X : Cx), X.prog = P → X.w = w → X.K = K → X.calm = true → ∀ (i : Nat) (pins : List (Addr × Obj)) (s : Shared) (σ : St) (H : Hp),
      L2.Inv X pins σ H s → (∀ b ∈ [e, it], FpOk X pins H b) → (∃ old, IsEnum s.heap e it (k₀ + i) old) → SI i s.heap → e ≠ it → (go i H ∨ stop i H) →
      ∃ (n : Nat) (fp : List Addr) (S : Nat → Heap → Prop) (Q : Nat → Value → Prop), Draws P w (Around.in1 X.A) it fp n Q S ∧ S i s.heap ∧ e ∉ fp ∧
        (go i H → i < n) ∧ (stop i H → i = n) ∧ (∀ h, S (i + 1) h → SI (i + 1) h) ∧ ∀ v, Q i v → go i H → ∃ x, RelV x v ∧ is i H x) :
    Turn P w K (.Tuple elts kk tpos) (ItN k₀ go stop is) [e, it] e fun i h => (∃ old, IsEnum h e it (k₀ + i) old) ∧ SI i h ∧ e ≠ it := by
  have mE : e ∈ [e, it] := List.mem_cons_self
  have mI : it ∈ [e, it] := List.mem_cons_of_mem _ List.mem_cons_self
  refine ⟨mE, ?_, ?_, ?_, ?_, ?_⟩
  · rintro i h ⟨⟨old, he⟩, hi, ne⟩ b hb
    simp only [List.mem_cons, List.not_mem_nil, or_false] at hb
    rcases hb with rfl | rfl
    · exact ⟨_, he, fun v q => nomatch q⟩
    · exact obj i h hi
  · rintro i h h' ⟨⟨old, he⟩, hi, ne⟩ k
    exact ⟨⟨old, k e mE _ he⟩, keep i h h' hi (k it mI), ne⟩
  · rintro X hP hw hK hc i pins s σ H E I hf ⟨⟨old, he⟩, hi, ne⟩ hg
    obtain ⟨n, fp, S, Q, D, s0, nf, lt, -, fw, rel⟩ := src X hP hw hK hc i pins s σ H I hf ⟨old, he⟩ hi ne (.inl hg)
    refine wpAny_pyNext_enum_itemC D he s0 (lt hg) ne nf fun x h' tk qx ho hS hT hsz hk => ?_
    refine ⟨_, rfl, wpAny_letOwnedTupleGo_enum ho fun h'' he' sb => ?_⟩
    obtain ⟨y, ry, iy⟩ := rel x qx hg
    have hel := Heap.lt_size he
    have hil : it < s.heap.objs.size := by obtain ⟨o, q, _⟩ := obj i _ hi; exact Heap.lt_size q
    have hT2 := (sb.right s.heap.objs.size (Nat.ne_of_gt hel)).trans hT
    have new : ObjOk X.prog X.w (upd H s.heap.objs.size (.tup [.int (k₀ + i), y])) h'' s.heap.objs.size (.tup [.int (k₀ + i), y]) :=
      ⟨(by show 2 ≤ sizeLine; decide), [.int (k₀ + i) tk, x], .cons ⟨tk, rfl⟩ (.cons ry .nil), _, hT2, rfl, 0, rfl⟩
    have I1 := I.turnedNew (t' := tk + 1) (fun b ob hb q => (sb.right b fun z => hb (z ▸ mE)).trans (hk b ob (fun z => hb (z ▸ mE)) (fun z => hb (z ▸ mI)) q)) hf (Nat.le_refl _) new
    refine ⟨.ref s.heap.objs.size, _, I1, rfl, ⟨_, y, rfl, I.hok.fresh (Nat.le_refl _), rfl, iy⟩, ⟨⟨x, ?_⟩, ?_, ne⟩, ?_⟩
    · have e1 : k₀ + ((i + 1 : Nat) : Int) = k₀ + i + 1 := by omega
      rw [e1]; exact he'
    · exact keep (i + 1) h' h'' (fw _ hS) fun o q => (sb.right it (Ne.symm ne)).trans q
    · intro b hb
      have hb' : b < s.heap.objs.size := by
        simp only [List.mem_cons, List.not_mem_nil, or_false] at hb
        rcases hb with rfl | rfl <;> assumption
      rw [upd_ne (Nat.ne_of_lt hb')]
      exact (hf b hb).1
  · rintro X hP hw hK hc i pins s σ H E I hf ⟨⟨old, he⟩, hi, ne⟩ hg
    obtain ⟨n, fp, S, Q, D, s0, nf, -, eq, -, -⟩ := src X hP hw hK hc i pins s σ H I hf ⟨old, he⟩ hi ne (.inr hg)
    obtain ⟨f0, f1, f2, f3, f4, f5⟩ := hf it mI
    have hin := eq hg
    subst hin
    exact wpAny_pyNext_enum_endD D he s0 fun h' eb => ⟨rfl, I.turned (fun b o hb q => eb b o hb q) f0 f1 f3 f4 f5⟩
  · rintro A i s Q E ⟨⟨old, he⟩, _⟩ h
    exact wpAny_pyIter_enum he h
end Mf
namespace Mf
open PySem L2
theorem callType_kw {M : Model} {A : Around} {E : Value → Shared → Prop} {s : Shared} {env : Env} {pos : Pos} {T : String} {e : Expr} {rest : List Expr} {kws : List Keyword} {Q : Value → Shared → Prop}
    (h : wpAny M A (spliced (backTo pos (starEach (e :: rest) env))) (fun vs s₁ => wpAny M A (evalAll ((backToKw pos (keywordEach kws env)).map (·.2)))
      (fun ks s₂ => wpAny M A (call (.type T) vs (((backToKw pos (keywordEach kws env)).filterMap (·.1)).zip ks)) Q E s₂) E s₁) E s)
    (h0 : backTo pos (starEach (e :: rest) env) = (false, eval e env) :: backTo pos (starEach rest env))
    (h1 : (backTo pos (starEach (e :: rest) env)).any (·.1) = false) (h2 : (backToKw pos (keywordEach kws env)).all (fun x => x.1.isSome) = true)
    (h3 : (backToKw pos (keywordEach kws env)).any (fun x => x.1.isNone) = false) :
    wpAny M A (callWith pos (.type T) [] (backTo pos (starEach (e :: rest) env)) (backToKw pos (keywordEach kws env))) Q E s := by
  rw [h0] at h h1 ⊢
  unfold callWith
  refine wpAny_bind (wpAny_holding (evalArgs_kw h2 (wpAny_mono h ?_ fun _ _ q => q)))
  intro vs s1 h
  refine wpAny_mono h ?_ fun _ _ q => q
  intro ks s2 h
  rw [h1, h3]
  refine wpAny_bind (wpAny_standAt ?_)
  refine wpAny_bind (wpAny_pure ?_)
  refine wpAny_bind (wpAny_mono h ?_ fun _ _ q => q)
  intro v s3 q
  exact wpAny_bind (wpAny_holding (wpAny_point (wpAny_pure q)))

/-- enumerate(.., start=k₀) over a list or a tuple -/
def iEnumS (K : W.Frag) (k₀ : Int) (te : TA) : TI := fun σ H R => te σ H fun vs H1 => ∃ (a : Addr) (xs : List V), vs = [.ref a] ∧
  ((SqL K H1 a xs ∧ R (ItN k₀ (fun i H => ∃ xs x, SqL K H a xs ∧ xs[i]? = some x) (fun i H => ∃ xs, SqL K H a xs ∧ xs.length = i) fun i H x => ∀ xs, SqL K H a xs → xs[i]? = some x) H1) ∨
   (SqT K H1 a xs ∧ R (ItN k₀ (fun i H => ∃ xs x, SqT K H a xs ∧ xs[i]? = some x) (fun i H => ∃ xs, SqT K H a xs ∧ xs.length = i) fun i H x => ∀ xs, SqT K H a xs → xs[i]? = some x) H1))
theorem back_get {xs : List V} {us : List Value} (r : Vals xs us) {i : Nat} {u : Value} (h : us[i]? = some u) : ∃ x, RelV x u ∧ xs[i]? = some x := by
  have hi : i < us.length := by
    rcases Nat.lt_or_ge i us.length with q | q
    · exact q
    · rw [List.getElem?_eq_none q] at h; cases h
  rw [← r.length] at hi
  obtain ⟨u', hu, ru⟩ := Vals.get r (List.getElem?_eq_getElem hi)
  rw [h] at hu
  cases hu
  exact ⟨_, ru, List.getElem?_eq_getElem hi⟩
theorem turn_fromL {P : Program} {w : World} {K : W.Frag} {elts : List Expr} {kk : Nat} {tpos : Pos} (k₀ : Int) (e it a : Addr) :
    Turn P w K (.Tuple elts kk tpos) (ItN k₀ (fun i H => ∃ xs x, SqL K H a xs ∧ xs[i]? = some x) (fun i H => ∃ xs, SqL K H a xs ∧ xs.length = i) fun i H x => ∀ xs, SqL K H a xs → xs[i]? = some x) [e, it] e
      fun i h => (∃ old, IsEnum h e it (k₀ + i) old) ∧ Heap.IsListIter h it a i ∧ e ≠ it := by
  refine turn_from k₀ e it ?_ ?_ ?_
  · rintro i h ⟨o, ho, hc, hd⟩
    exact ⟨o, ho, fun v q => by rw [hd] at q; cases q⟩
  · intro i h h' q k
    exact q.at fun o z => k o z
  · rintro X rfl rfl rfl hc i pins s σ H I hf ⟨old, he⟩ hi ne hg
    have key : ∀ xs, SqL X.K H a xs → ∃ (n : Nat) (fp : List Addr) (S : Nat → Heap → Prop) (Q : Nat → Value → Prop), Draws X.prog X.w (Around.in1 X.A) it fp n Q S ∧ S i s.heap ∧ e ∉ fp ∧
        n = xs.length ∧ (∀ h, S (i + 1) h → Heap.IsListIter h it a (i + 1)) ∧ ∀ v, Q i v → ∃ x, RelV x v ∧ xs[i]? = some x := by
      intro xs hq
      obtain ⟨its, rv, p, hz⟩ := I.list hq
      have pl := p.isList
      have n1 : a ≠ it := fun q => by
        obtain ⟨o, ho, hc, _⟩ := pl
        obtain ⟨o', ho', hc', _⟩ := hi
        rw [q, ho'] at ho; cases ho; rw [hc'] at hc; injection hc with hc; exact absurd hc (by decide)
      have n2 : a ≠ e := fun q => by
        obtain ⟨o, ho, hc, _⟩ := pl
        have he' : s.heap.get? e = _ := he
        rw [q, he'] at ho; cases ho; injection hc with hc; exact absurd hc (by decide)
      refine ⟨_, _, _, _, Draws.list (show (Around.in1 X.A).handled = none from I.ok.hd hc) it a n1 its.toArray, ⟨hi, pl⟩, ?_, ?_, fun h q => q.1, ?_⟩
      · intro q
        simp only [List.mem_cons, List.not_mem_nil, or_false] at q
        rcases q with q | q
        · exact ne q
        · exact n2 q.symm
      · rw [List.size_toArray, rv.length]
      · intro v hv
        have hv : its[i]? = some v := by rw [← List.getElem?_toArray]; exact hv
        exact back_get rv hv
    rcases hg with ⟨xs, x, hq, hx⟩ | ⟨xs, hq, hx⟩
    · obtain ⟨n, fp, S, Q, D, s0, nf, hn, fw, rel⟩ := key xs hq
      refine ⟨n, fp, S, Q, D, s0, nf, fun _ => ?_, ?_, fw, fun v qv _ => ?_⟩
      · rw [hn]
        rcases Nat.lt_or_ge i xs.length with q | q
        · exact q
        · rw [List.getElem?_eq_none q] at hx; cases hx
      · rintro ⟨ys, hy, rfl⟩
        rw [hn, I.list_inj hq hy]
      · obtain ⟨x', rx, hx'⟩ := rel v qv
        exact ⟨x', rx, fun ys hy => by rw [I.list_inj hy hq]; exact hx'⟩
    · obtain ⟨n, fp, S, Q, D, s0, nf, hn, fw, rel⟩ := key xs hq
      refine ⟨n, fp, S, Q, D, s0, nf, ?_, fun _ => by rw [hn, hx], fw, fun v qv _ => ?_⟩
      · rintro ⟨ys, y, hy, hyi⟩
        rw [I.list_inj hy hq, List.getElem?_eq_none (by omega)] at hyi; cases hyi
      · obtain ⟨x', rx, hx'⟩ := rel v qv
        exact ⟨x', rx, fun ys hy => by rw [I.list_inj hy hq]; exact hx'⟩
theorem isTuple_of {h : Heap} {a : Addr} {its : Array Value} (p : PyProof.Rows.IsTup h a its) : Heap.IsTuple h a its := p
theorem turn_fromT {P : Program} {w : World} {K : W.Frag} {elts : List Expr} {kk : Nat} {tpos : Pos} (k₀ : Int) (e it a : Addr) :
    Turn P w K (.Tuple elts kk tpos) (ItN k₀ (fun i H => ∃ xs x, SqT K H a xs ∧ xs[i]? = some x) (fun i H => ∃ xs, SqT K H a xs ∧ xs.length = i) fun i H x => ∀ xs, SqT K H a xs → xs[i]? = some x) [e, it] e
      fun i h => (∃ old, IsEnum h e it (k₀ + i) old) ∧ Heap.IsTupleIter h it a i ∧ e ≠ it := by
  refine turn_from k₀ e it ?_ ?_ ?_
  · rintro i h ⟨o, ho, hc, hd⟩
    exact ⟨o, ho, fun v q => by rw [hd] at q; cases q⟩
  · intro i h h' q k
    exact q.at fun o z => k o z
  · rintro X rfl rfl rfl hc i pins s σ H I hf ⟨old, he⟩ hi ne hg
    have key : ∀ xs, SqT X.K H a xs → ∃ (n : Nat) (fp : List Addr) (S : Nat → Heap → Prop) (Q : Nat → Value → Prop), Draws X.prog X.w (Around.in1 X.A) it fp n Q S ∧ S i s.heap ∧ e ∉ fp ∧
        n = xs.length ∧ (∀ h, S (i + 1) h → Heap.IsTupleIter h it a (i + 1)) ∧ ∀ v, Q i v → ∃ x, RelV x v ∧ xs[i]? = some x := by
      intro xs hq
      obtain ⟨its, rv, p, hz⟩ := I.tuple hq
      have pl := isTuple_of p
      have n1 : a ≠ it := fun q => by
        obtain ⟨o, ho, hc, _⟩ := pl
        obtain ⟨o', ho', hc', _⟩ := hi
        rw [q, ho'] at ho; cases ho; rw [hc'] at hc; injection hc with hc; exact absurd hc (by decide)
      have n2 : a ≠ e := fun q => by
        obtain ⟨o, ho, hc, _⟩ := pl
        have he' : s.heap.get? e = _ := he
        rw [q, he'] at ho; cases ho; injection hc with hc; exact absurd hc (by decide)
      refine ⟨_, _, _, _, Draws.tuple (show (Around.in1 X.A).handled = none from I.ok.hd hc) it a n1 its.toArray, ⟨hi, pl⟩, ?_, ?_, fun h q => q.1, ?_⟩
      · intro q
        simp only [List.mem_cons, List.not_mem_nil, or_false] at q
        rcases q with q | q
        · exact ne q
        · exact n2 q.symm
      · rw [List.size_toArray, rv.length]
      · intro v hv
        have hv : its[i]? = some v := by rw [← List.getElem?_toArray]; exact hv
        exact back_get rv hv
    rcases hg with ⟨xs, x, hq, hx⟩ | ⟨xs, hq, hx⟩
    · obtain ⟨n, fp, S, Q, D, s0, nf, hn, fw, rel⟩ := key xs hq
      refine ⟨n, fp, S, Q, D, s0, nf, fun _ => ?_, ?_, fw, fun v qv _ => ?_⟩
      · rw [hn]
        rcases Nat.lt_or_ge i xs.length with q | q
        · exact q
        · rw [List.getElem?_eq_none q] at hx; cases hx
      · rintro ⟨ys, hy, rfl⟩
        rw [hn, I.tuple_inj hq hy]
      · obtain ⟨x', rx, hx'⟩ := rel v qv
        exact ⟨x', rx, fun ys hy => by rw [I.tuple_inj hy hq]; exact hx'⟩
    · obtain ⟨n, fp, S, Q, D, s0, nf, hn, fw, rel⟩ := key xs hq
      refine ⟨n, fp, S, Q, D, s0, nf, ?_, fun _ => by rw [hn, hx], fw, fun v qv _ => ?_⟩
      · rintro ⟨ys, y, hy, hyi⟩
        rw [I.tuple_inj hy hq, List.getElem?_eq_none (by omega)] at hyi; cases hyi
      · obtain ⟨x', rx, hx'⟩ := rel v qv
        exact ⟨x', rx, fun ys hy => by rw [I.tuple_inj hy hq]; exact hx'⟩
theorem pi_enumS {X : Cx} {e : Expr} {ta : TA} {p pos tpos kp cq : Pos} {cp : Nat} {elts : List Expr} {kk : Nat} {k₀ : Int} (hg : Gl X "enumerate") (hm : X.mg "enumerate" = none) (ha : PA X [e] ta)
    (b0 : -2 ^ 63 ≤ k₀) (b1 : k₀ < 2 ^ 63)
    (h0 : backTo pos (starEach [e] X.env) = (false, eval e X.env) :: backTo pos (starEach [] X.env) := by rfl)
    (h1 : (backTo pos (starEach [e] X.env)).any (·.1) = false := by rfl) :
    PI X (.Tuple elts kk tpos) (.Call (.Name "enumerate" p) [e] [⟨some "start", .Constant (.int k₀) cp cq, kp⟩] pos) (iEnumS X.K k₀ ta) := by
  refine ⟨fun pins s σ H R I h => wpAny_Call_Name_kw (ld_blt I hg hm PyProof.Rows.boot_enumerate (callType_kw (thn (ha.run pos pins s σ H _ I h) ?_) h0 h1 rfl rfl))⟩
  rintro us s1 ⟨vs, H1, I1, r1, q1⟩
  have pk : PK X [⟨some "start", .Constant (.int k₀) cp cq, kp⟩] (tCons (tC (.int k₀)) tNil) := pk_cons pe_int pk_nil
  refine thn (pk.run pos pins s1 σ H1 (fun zs H' => zs = [.int k₀] ∧ H' = H1) I1 ⟨rfl, rfl⟩) ?_
  rintro ks s2 ⟨zs, H2, I2, r2, rfl, rfl⟩
  match ks, r2 with
  | [_], .cons ⟨t, ht⟩ .nil =>
    subst ht
    obtain ⟨a, xs, rfl, q1⟩ := q1
    match us, r1 with
    | [_], .cons ra .nil =>
      have ra : _ = Value.ref a := ra
      subst ra
      rcases q1 with ⟨hq, q⟩ | ⟨hq, q⟩
      · obtain ⟨its, rv, p', hz⟩ := I2.list hq
        refine enum_begins_start (begins_list a its.toArray) p'.isList b0 b1 fun h' he ho hsz hk => ?_
        refine wpAny_pyIter_enum he ?_
        have I3 := I2.kept (t' := s2.toks) hk
        refine ⟨_, [s2.heap.objs.size + 1, s2.heap.objs.size], _, _, H2, rfl, I3, turn_fromL k₀ _ _ a, ⟨⟨_, by simpa using he⟩, ⟨_, ho, rfl, rfl⟩, Nat.succ_ne_self _⟩, ?_, q⟩
        intro b hb
        simp only [List.mem_cons, List.not_mem_nil, or_false] at hb
        rcases hb with rfl | rfl
        · exact I2.fpOk (Nat.le_succ _) (I2.hok.fresh (Nat.le_succ _))
        · exact I2.fpOk (Nat.le_refl _) (I2.hok.fresh (Nat.le_refl _))
      · obtain ⟨its, rv, p', hz⟩ := I2.tuple hq
        refine enum_begins_start (begins_tuple a its.toArray) (isTuple_of p') b0 b1 fun h' he ho hsz hk => ?_
        refine wpAny_pyIter_enum he ?_
        have I3 := I2.kept (t' := s2.toks) hk
        refine ⟨_, [s2.heap.objs.size + 1, s2.heap.objs.size], _, _, H2, rfl, I3, turn_fromT k₀ _ _ a, ⟨⟨_, by simpa using he⟩, ⟨_, ho, rfl, rfl⟩, Nat.succ_ne_self _⟩, ?_, q⟩
        intro b hb
        simp only [List.mem_cons, List.not_mem_nil, or_false] at hb
        rcases hb with rfl | rfl
        · exact I2.fpOk (Nat.le_succ _) (I2.hok.fresh (Nat.le_succ _))
        · exact I2.fpOk (Nat.le_refl _) (I2.hok.fresh (Nat.le_refl _))
theorem walk_enumSL {K : W.Frag} {k₀ : Int} {a : Addr} {xs : List V} :
    Walk (ItN k₀ (fun i H => ∃ xs x, SqL K H a xs ∧ xs[i]? = some x) (fun i H => ∃ xs, SqL K H a xs ∧ xs.length = i) fun i H x => ∀ xs, SqL K H a xs → xs[i]? = some x) xs.length (fun H => SqL K H a xs)
      (YPair (fun i => some (.int (k₀ + i))) fun i => xs[i]?) where
  goes := fun i H hi h => ⟨xs, xs[i], h, List.getElem?_eq_getElem hi⟩
  stops := fun H h => ⟨xs, h, rfl⟩
  yields := by
    rintro i H x H' hi h ⟨T, y, rfl, hT, rfl, hy⟩
    exact ⟨T, _, y, rfl, hT, rfl, rfl, hy xs h⟩
theorem walk_enumST {K : W.Frag} {k₀ : Int} {a : Addr} {xs : List V} :
    Walk (ItN k₀ (fun i H => ∃ xs x, SqT K H a xs ∧ xs[i]? = some x) (fun i H => ∃ xs, SqT K H a xs ∧ xs.length = i) fun i H x => ∀ xs, SqT K H a xs → xs[i]? = some x) xs.length (fun H => SqT K H a xs)
      (YPair (fun i => some (.int (k₀ + i))) fun i => xs[i]?) where
  goes := fun i H hi h => ⟨xs, xs[i], h, List.getElem?_eq_getElem hi⟩
  stops := fun H h => ⟨xs, h, rfl⟩
  yields := by
    rintro i H x H' hi h ⟨T, y, rfl, hT, rfl, hy⟩
    exact ⟨T, _, y, rfl, hT, rfl, rfl, hy xs h⟩
end Mf
namespace Mf
open PySem L2
theorem next_val {prog : Program} {w : World} {A : Around} {E : Value → Shared → Prop} {s : Shared} {it d : Addr} {i ep : Nat} {es : Array DictEntry} {Q : Value → Shared → Prop}
    (hi : Heap.IsValIter s.heap it d i es.size ep) (hd : Heap.DictRaw s.heap d es ep) (hlt : i < es.size)
    (h : ∀ h' : Heap, Heap.IsValIter h' it d (i + 1) es.size ep → Heap.SameBut it s.heap h' → Q es[i].val { s with heap := h' }) :
    wpAny (model prog w) A (Builtin.SmallTypes.nextOf (.ref it)) Q E s := by
  unfold Builtin.SmallTypes.nextOf
  refine wpAny_bind (wpAny_callSpecial?_slot hi.typeIs F.slot_dict_valueiterator_next ?_)
  refine wpAny_call_entry F.slot_dict_valueiterator_next hi.typeIs F.entry_dict_valueiterator_next ?_ (F.args_dict_valueiterator_next_1 _)
  unfold Builtin.«dict_valueiterator.__next__»
  have ty := hi.typeIs
  obtain ⟨o, ho, hc, hdat⟩ := hi
  obtain ⟨od, hod, -, hodd⟩ := hd
  refine wpAny_bind (wpAny_of_eq (a := .ref it) rfl ?_)
  refine wpAny_bind ?_
  refine wpAny_bind (wpAny_bind (wpAny_typeNameOfWhole_valiter ty (wpAny_pure ?_)))
  refine wpAny_bind (wpAny_fieldsOf ho hdat ?_)
  have ow : (if Builtin.Dict_items.ownsTuple "dict_valueiterator" = true then 2 else 0) = 0 := by decide +kernel
  rw [ow]
  refine wpAny_ite_false (by rfl) ?_
  refine wpAny_bind (wpAny_of_eq (a := d) rfl ?_)
  refine wpAny_bind (wpAny_dictEntries hod hodd ?_)
  refine wpAny_ite_false (by simp) ?_
  refine wpAny_bind (wpAny_of_eq (a := d) rfl ?_)
  refine wpAny_bind (wpAny_dictEpoch hod hodd ?_)
  refine wpAny_ite_false (by simp) ?_
  refine wpAny_pure ?_
  have e2 : (if ((i : Nat) : Int) < 0 then none else es[((i : Nat) : Int).toNat]?) = some es[i] := by
    rw [if_neg (by omega)]
    show es[i]? = _
    rw [Array.getElem?_eq_getElem hlt]
  dsimp only
  rw [e2]
  dsimp only
  refine wpAny_bind (wpAny_bind (wpAny_typeNameOfWhole_valiter ty (wpAny_pure ?_)))
  refine wpAny_bind (wpAny_isOneOf_valiter ty ?_)
  rw [ow]
  refine wpAny_bind (wpAny_setField ho hdat (by show 1 < 4; decide) ?_)
  rw [if_neg (by decide +kernel)]
  have sb := Heap.SameBut.update s.heap it (Obj.mapFields fun x => x.setIfInBounds (0 + 1) (rawInt ((i : Int) + 1)))
  have hn : Heap.IsValIter (s.heap.update it (Obj.mapFields fun x => x.setIfInBounds (0 + 1) (rawInt ((i : Int) + 1)))) it d (i + 1) es.size ep := by
    have dm := Obj.data_mapFields hdat fun x => x.setIfInBounds (0 + 1) (rawInt ((i : Int) + 1))
    refine ⟨_, Heap.get?_update_self _ ho (Obj.isFreed_of_fields dm), ?_, ?_⟩
    · rw [Obj.cls_mapFields]; exact hc
    · rw [dm]
      simp [rawInt]
  generalize s.heap.update it (Obj.mapFields fun x => x.setIfInBounds (0 + 1) (rawInt ((i : Int) + 1))) = h2 at sb hn ⊢
  have ty2 : Shared.TypeIs { s with heap := h2 } (.ref it) "dict_valueiterator" := hn.typeIs
  refine wpAny_bind (wpAny_holding (wpAny_bind (wpAny_isOneOf_valiter ty2 ?_)))
  refine wpAny_ite_false (by decide +kernel) ?_
  refine wpAny_bind (wpAny_isOneOf_valiter ty2 ?_)
  refine wpAny_ite_true (by decide +kernel) ?_
  refine wpAny_pure ?_
  refine wpAny_pure ⟨_, rfl, ?_⟩
  exact wpAny_pure (h h2 hn sb)
theorem next_val_end {prog : Program} {w : World} {A : Around} {E : Value → Shared → Prop} {s : Shared} {it d : Addr} {ep : Nat} {es : Array DictEntry} {Q : Value → Shared → Prop}
    (hh : A.handled = none) (hi : Heap.IsValIter s.heap it d es.size es.size ep) (hd : Heap.DictRaw s.heap d es ep)
    (h : ∀ (h' : Heap) (e : Addr), Heap.ExtBut it s.heap h' → (∃ o, h'.get? e = some o ∧ o.cls = .type "StopIteration") → E (.ref e) { s with heap := h' }) :
    wpAny (model prog w) A (Builtin.SmallTypes.nextOf (.ref it)) Q E s := by
  unfold Builtin.SmallTypes.nextOf
  refine wpAny_bind (wpAny_callSpecial?_slot hi.typeIs F.slot_dict_valueiterator_next ?_)
  refine wpAny_call_entry F.slot_dict_valueiterator_next hi.typeIs F.entry_dict_valueiterator_next ?_ (F.args_dict_valueiterator_next_1 _)
  unfold Builtin.«dict_valueiterator.__next__»
  have ty := hi.typeIs
  obtain ⟨o, ho, hc, hdat⟩ := hi
  obtain ⟨od, hod, -, hodd⟩ := hd
  refine wpAny_bind (wpAny_of_eq (a := .ref it) rfl ?_)
  refine wpAny_bind ?_
  refine wpAny_bind (wpAny_bind (wpAny_typeNameOfWhole_valiter ty (wpAny_pure ?_)))
  refine wpAny_bind (wpAny_fieldsOf ho hdat ?_)
  have ow : (if Builtin.Dict_items.ownsTuple "dict_valueiterator" = true then 2 else 0) = 0 := by decide +kernel
  rw [ow]
  refine wpAny_ite_false (by rfl) ?_
  refine wpAny_bind (wpAny_of_eq (a := d) rfl ?_)
  refine wpAny_bind (wpAny_dictEntries hod hodd ?_)
  refine wpAny_ite_false (by simp) ?_
  refine wpAny_bind (wpAny_of_eq (a := d) rfl ?_)
  refine wpAny_bind (wpAny_dictEpoch hod hodd ?_)
  refine wpAny_ite_false (by simp) ?_
  refine wpAny_pure ?_
  have e2 : (if ((es.size : Nat) : Int) < 0 then none else es[((es.size : Nat) : Int).toNat]?) = none := by
    rw [if_neg (by omega)]
    show es[es.size]? = _
    exact Array.getElem?_eq_none (Nat.le_refl _)
  dsimp only
  rw [e2]
  dsimp only
  refine wpAny_bind (wpAny_bind (wpAny_typeNameOfWhole_valiter ty (wpAny_pure ?_)))
  rw [ow]
  refine wpAny_bind (wpAny_setField ho hdat (by show 0 < 4; decide) ?_)
  have sb := Heap.SameBut.update s.heap it (Obj.mapFields fun x => x.setIfInBounds 0 Value.none)
  generalize s.heap.update it (Obj.mapFields fun x => x.setIfInBounds 0 Value.none) = h2 at sb ⊢
  unfold newExc newTuple
  refine wpAny_bind (wpAny_bind (wpAny_newObj_type ?_ (by show 0 ≤ sizeLine; decide)))
  refine wpAny_bind (wpAny_of_eq (a := .none) rfl ?_)
  refine wpAny_newObj_type ?_ (sizeOk_excFields _ _ _ _ _ _ _ _)
  refine wpAny_raiseNew_none (show (Around.in1 A).handled = none from hh) ?_
  exact h _ _ ((sb.extBut.push _).push _) ⟨_, Heap.get?_push_size _ rfl, rfl⟩
theorem draws_val {prog : Program} {w : World} {A : Around} (hh : A.handled = none) (it d : Addr) (ne : d ≠ it) (es : Array DictEntry) (ep : Nat) :
    Draws prog w A it [it, d] es.size (fun i v => ∃ e, es[i]? = some e ∧ v = e.val) fun i h => Heap.IsValIter h it d i es.size ep ∧ Heap.DictRaw h d es ep where
  live := fun i h q => let ⟨o, ho, _⟩ := q.1; ⟨o, ho⟩
  frame := fun i h h' q k => ⟨q.1.at fun o z => k it (by simp) o z, let ⟨o, ho, r⟩ := q.2; ⟨o, k d (by simp) o ho, r⟩⟩
  item := fun i s Q E hi q f => next_val q.1 q.2 hi fun h' x sb => f _ h' s.toks ⟨_, Array.getElem?_eq_getElem hi, rfl⟩
    ⟨x, let ⟨o, ho, r⟩ := q.2; ⟨o, (sb.right d ne).trans ho, r⟩⟩ sb
  done := fun s Q E q f => next_val_end hh q.1 q.2 fun h' e a b => f h' e a b
end Mf
namespace Mf
open PySem L2
abbrev ItV (k₀ : Int) (d : Addr) (o : Obj) (kvs : List (Key × V)) : It :=
  ItN k₀ (fun i H => H d = some (.frz o (.dK kvs)) ∧ i < kvs.length) (fun i H => H d = some (.frz o (.dK kvs)) ∧ kvs.length = i) fun i _ x => ∃ k, kvs[i]? = some (k, x)
theorem pairs_val {prog : Program} {w : World} {knd : KeyKind prog w Key} {es : List DictEntry} {vs : List (Key × Value)} (h : Pairs knd es vs) :
    es.length = vs.length ∧ ∀ (i : Nat) (e : DictEntry), es[i]? = some e → ∃ p, vs[i]? = some p ∧ e.val = p.2 := by
  induction h with
  | nil => exact ⟨rfl, fun i e h => by simp at h⟩
  | cons a b r ih =>
    refine ⟨by rw [List.length_cons, List.length_cons, ih.1], fun i e h => ?_⟩
    match i, h with
    | 0, h =>
      cases h
      exact ⟨_, rfl, b⟩
    | i + 1, h => exact ih.2 i e h
theorem kv_back {kvs : List (Key × V)} {vs : List (Key × Value)} (r : KV kvs vs) {i : Nat} {p : Key × Value} (h : vs[i]? = some p) : ∃ x, RelV x p.2 ∧ ∃ k, kvs[i]? = some (k, x) := by
  have l := Paired.length r
  have hi : i < kvs.length := by
    rcases Nat.lt_or_ge i kvs.length with q | q
    · exact q
    · rw [List.getElem?_eq_none (by omega)] at h; cases h
  obtain ⟨u, hu, ru⟩ := kv_get r (k := kvs[i].1) (v := kvs[i].2) (List.getElem?_eq_getElem hi)
  rw [h] at hu
  cases hu
  exact ⟨_, ru, _, List.getElem?_eq_getElem hi⟩
theorem turn_fromV {P : Program} {w : World} {K : W.Frag} {elts : List Expr} {kk : Nat} {tpos : Pos} (k₀ : Int) (e it d : Addr) {o : Obj} {es : Array DictEntry} {ep : Nat} {kvs : List (Key × V)} (hod : o.data = .dict es ep) :
    Turn P w K (.Tuple elts kk tpos) (ItV k₀ d o kvs) [e, it] e
      fun i h => (∃ old, IsEnum h e it (k₀ + i) old) ∧ Heap.IsValIter h it d i kvs.length ep ∧ e ≠ it := by
  refine turn_from k₀ e it ?_ ?_ ?_
  · rintro i h ⟨o, ho, hc, hd⟩
    exact ⟨o, ho, fun v q => by rw [hd] at q; cases q⟩
  · intro i h h' q k
    exact q.at fun o z => k o z
  · rintro X rfl rfl rfl hc i pins s σ H I hf ⟨old, he⟩ hi ne hg
    have hH : H d = some (.frz o (.dK kvs)) := hg.elim (·.1) (·.1)
    obtain ⟨hs, hgd, hx, es', ep', vs, hdt, hsz, kv, hm⟩ := I.frzK hH
    obtain ⟨rfl, rfl⟩ := dict_ep hod hdt
    obtain ⟨o2, es2, g1, g2, g3, g4, g5, g6⟩ := hm
    rw [hgd] at g1
    cases g1
    obtain ⟨q1, _⟩ := dict_ep hdt g3
    subst q1
    have pv := pairs_val g5
    have n1 : d ≠ it := fun q => by
      obtain ⟨o', ho', hc', hd'⟩ := hi
      rw [← q, hgd] at ho'; cases ho'
      rw [hdt] at hd'; cases hd'
    have n2 : d ≠ e := fun q => by
      have he' : s.heap.get? e = _ := he
      rw [← q, hgd] at he'; cases he'
      cases hdt
    rw [← hsz] at hi
    refine ⟨_, _, _, _, draws_val (show (Around.in1 X.A).handled = none from I.ok.hd hc) it d n1 es2 ep', ⟨hi, ⟨_, hgd, hx, hdt⟩⟩, ?_, ?_, ?_, fun h q => by rw [hsz] at q; exact q.1, ?_⟩
    · intro q
      simp only [List.mem_cons, List.not_mem_nil, or_false] at q
      rcases q with q | q
      · exact ne q
      · exact n2 q.symm
    · rintro ⟨_, q⟩; rw [hsz]; exact q
    · rintro ⟨_, q⟩; rw [hsz]; exact q.symm
    · rintro v ⟨en, hen, rfl⟩ _
      obtain ⟨p, hp, ev⟩ := pv.2 i en (by rw [Array.getElem?_toList]; exact hen)
      rw [ev]
      exact kv_back kv hp
theorem begins_values (v d : Addr) (es : Array DictEntry) (ep : Nat) :
    Begins (.ref v) ⟨.type "dict_valueiterator", none, .fields #[.ref d, .int 0 0, .int (es.size : Nat) 0, .int (ep : Nat) 0], #[]⟩ (fun h => Heap.IsValuesView h v d ∧ Heap.DictRaw h d es ep) where
  iter := fun prog w A E s Q hq q => wpAny_pyIter_values_raw hq.1 hq.2 q
  keeps := by
    rintro h h' ⟨⟨o, a, b, c⟩, o2, g1, g2⟩ k
    exact ⟨⟨o, k _ _ a, b, c⟩, o2, k _ _ g1, g2⟩
  free := rfl
def iEnumV (k₀ : Int) (td : TE) : TI := fun σ H R => td σ H fun x H1 => ∃ d o kvs, x = .ref d ∧ H1 d = some (.frz o (.dK kvs)) ∧ R (ItV k₀ d o kvs) H1
theorem pi_enumV {X : Cx} {e : Expr} {td : TE} {p pos cpos apos tpos kp cq : Pos} {cp : Nat} {elts : List Expr} {kk : Nat} {k₀ : Int} (hg : Gl X "enumerate") (hm : X.mg "enumerate" = none) (he : PE X e td)
    (b0 : -2 ^ 63 ≤ k₀) (b1 : k₀ < 2 ^ 63)
    (hbase : attributeBase e "values" X.env (eval e X.env) = eval e X.env := by rfl) (hline : (apos.endLine == cpos.line) = true := by rfl) :
    PI X (.Tuple elts kk tpos) (.Call (.Name "enumerate" p) [.Call (.Attribute e "values" apos) [] [] cpos] [⟨some "start", .Constant (.int k₀) cp cq, kp⟩] pos) (iEnumV k₀ td) := by
  refine ⟨fun pins s σ H R I h => wpAny_Call_Name_kw (ld_blt I hg hm PyProof.Rows.boot_enumerate (callType_kw ?_ rfl rfl rfl rfl))⟩
  refine Calls.spliced_cons ?_
  refine wpAny_Call_method hbase rfl hline F.plainAttrs_dict F.slot_dict_values F.type_dict_values (thn (he.run pins s σ H _ I h) ?_)
  rintro u s1 ⟨x, H1, I1, rx, d, o, kvs, rfl, hd, q⟩
  have ex : u = .ref d := rx
  subst ex
  obtain ⟨hs, hgd, hx, es, ep, vs, hdt, hsz, kv, hm⟩ := I1.frzK hd
  have hl := Paired.length kv
  refine ⟨hm.dictOf.typeIs, hm.dictOf.mapOf.noDict, ?_⟩
  refine method_meetsIn F.slot_dict_values F.entry_dict_values rfl (evalArgs_none ?_)
  refine ⟨rfl, hm.dictOf.typeIs, F.args_dict_values_1 _, _, meets_dict_values (mixKind X.prog X.w) d hs, ⟨vs, hm.dictOf⟩, ?_⟩
  show wpAny (model X.prog X.w) X.A (spliced []) _ _ _
  refine Calls.spliced_nil ?_
  have I2 := I1.kept (t' := s1.toks) fun b ob q => Heap.get?_push_of_some ⟨.type "dict_values", none, .fields #[.ref d], #[]⟩ q
  refine wpAny_evalAll_cons (wpAny_bind (wpAny_Constant_int (wpAny_bind (wpAny_standAt (wpAny_pure (wpAny_evalAll_nil ?_))))))
  have vw : Heap.IsValuesView (s1.heap.push ⟨.type "dict_values", none, .fields #[.ref d], #[]⟩) s1.heap.objs.size d := ⟨_, Heap.get?_push_size _ rfl, rfl, rfl⟩
  refine enum_begins_start (begins_values s1.heap.objs.size d es ep) ⟨vw, ⟨_, Heap.get?_push_of_some _ hgd, hx, hdt⟩⟩ b0 b1 fun h' he ho hsz2 hk => ?_
  refine wpAny_pyIter_enum he ?_
  have I3 := I2.kept (t' := s1.toks + 1) hk
  refine ⟨_, [(s1.heap.push ⟨.type "dict_values", none, .fields #[.ref d], #[]⟩).objs.size + 1, (s1.heap.push ⟨.type "dict_values", none, .fields #[.ref d], #[]⟩).objs.size], _, _, H1, rfl, I3, turn_fromV k₀ _ _ d hdt, ⟨⟨_, by simpa using he⟩, ⟨_, ho, rfl, by rw [← hsz]; rfl⟩, Nat.succ_ne_self _⟩, ?_, q⟩
  intro b hb
  simp only [List.mem_cons, List.not_mem_nil, or_false] at hb
  rcases hb with rfl | rfl
  · exact I2.fpOk (Nat.le_succ _) (I2.hok.fresh (Nat.le_succ _))
  · exact I2.fpOk (Nat.le_refl _) (I2.hok.fresh (Nat.le_refl _))
theorem walk_enumV {k₀ : Int} {d : Addr} {o : Obj} {kvs : List (Key × V)} :
    Walk (ItV k₀ d o kvs) kvs.length (fun H => H d = some (.frz o (.dK kvs))) (fun i H v H' => ∃ T x k, v = .ref T ∧ H T = none ∧ H' = upd H T (.tup [.int (k₀ + i), x]) ∧ kvs[i]? = some (k, x)) where
  goes := fun i H hi h => ⟨h, hi⟩
  stops := fun H h => ⟨h, rfl⟩
  yields := by
    rintro i H x H' hi h ⟨T, y, rfl, hT, rfl, k, hy⟩
    exact ⟨T, y, k, rfl, hT, rfl, hy⟩
end Mf
namespace Mf
open PySem L2
def top (i : Nat) : Stmt := PySem.Challenge.pw_midfall_k12_plain_without_calls.main.body.getD i (.Pass ⟨0, 0, 0, 0⟩)
abbrev sSource : Stmt := top 62
abbrev sDraw : Stmt := top 63
section
variable {P : Program} {w : World} {K : PySem.W.Frag} {mg : Str → Option Value} {base : Heap}

/-! ### _law_source -/
def spSource (K : PySem.W.Frag) : Sp := fun vs H Q _ => ∃ (a : Addr) (ns : List Int), vs = [.ref a] ∧ SqL K H a (ns.map V.int) ∧ ns.length ≤ 63 ∧ ∀ p H', H p = none → Same H H' → Src H' p 1000000000 → Q (.ref p) H'
theorem scSource : FnScope ["_law_script", "_law_great", "_law_seed", "_law_k", "_law_cell"] ["_law_script"] (defScope sSource) := ⟨rfl, rfl, rfl, by decide +kernel, rfl, by decide +kernel, by decide +kernel⟩
theorem ok_source {f : Addr} {fd : FuncData} (F : Fun K "_law_source" "_law_source" sSource f fd) (mI : mg "int" = none) (mE : mg "enumerate" = none) : FnOk P w K mg base CX0 1 f fd ["_law_script"] (spSource K) := by
  refine F.ok scSource (fun vs H Q E h => ?_) (fun cdv A outer s H vs Q E hr h => ?_)
  · obtain ⟨a, ns, rfl, _⟩ := h
    rfl
  · obtain ⟨a, ns, rfl, hs, hl, k⟩ := h
    refine ⟨_, pss_cons (ps_set (i := 1) scSource.nd rfl (.inl rfl) pe_int) (pss_cons (ps_set (i := 2) scSource.nd rfl (.inl rfl) pe_int)
      (pss_cons (ps_for PassesOwn.never rfl (pi_enum (by rfl) mE (pa_cons (pv 0) pa_nil)) (pg_tup rfl (pgs_cons (pg_name (i := 3) scSource.nd rfl (.inl rfl)) (pgs_cons (pg_name (i := 4) scSource.nd rfl (.inl rfl)) pgs_nil)))
        (C8.pss_cut (ps_if (PW.pt (pw_and (pt_cmpR op_eq (pv 1) pe_int (nomark _)) (pw_and1 (pt_cmpR op_ge (pv 4) (pe_op op_pow pe_int pe_int) (nomark _))))) (pss_one (ps_set (i := 1) scSource.nd rfl (.inl rfl) (pv 4))) pss_nil)
        (pss_one (ps_set (i := 2) scSource.nd rfl (.inl rfl) (pe_op op_mod (pe_callTy call_int1 (by rfl) mI (by decide +kernel) (pa_cons (pe_op op_add (pe_op op_mul (pe_op op_add (pv 2) (pe_op op_mod (pe_callTy call_int1 (by rfl) mI (by decide +kernel) (pa_cons (pv 4) pa_nil)) pe_int)) pe_int) (pv 3)) pa_nil)) pe_int)))))
      (pss_one (ps_ret (pe_lst (pa_cons (pv 1) (pa_cons (pv 2) (pa_cons pe_int pa_nil)))))))), ?_⟩
    refine ⟨_, rfl, a, _, rfl, hs, ?_⟩
    refine for_it walk_enum (fun i σ H' => ∃ (g s : Int) (vk vc : Option V), σ = [some (.ref a), some (.int g), some (.int s), vk, vc] ∧ 0 ≤ s ∧ s < 2147483647 ∧ Same H H') ⟨0, 104729, none, none, rfl, by decide, by decide, Same.refl H⟩ (fun i σ H' _ h => h.choose_spec.choose_spec.choose_spec.choose_spec.2.2.2.seq hs) ?_ ?_
    · rintro i x σ H1 H2 hi ⟨g, s, vk, vc, rfl, s0, s1, sm⟩ ⟨T, x1, y, rfl, hT, rfl, e1, e2⟩
      obtain rfl : x1 = .int (i : Nat) := (Option.some.inj e1).symm
      have e2 : (ns.map V.int)[i]? = some y := e2
      rw [List.getElem?_map] at e2
      obtain ⟨m, _, rfl⟩ := Option.map_eq_some_iff.mp e2
      refine ⟨T, _, rfl, .of upd_same, rfl, _, _, rfl, _, _, rfl, rfl, ?_⟩
      refine ⟨fun σ' H' => ∃ g' : Int, σ' = [some (.ref a), some (.int g'), some (.int s), some (.int (i : Nat)), some (.int m)] ∧ H' = upd H1 T (.tup [.int (i : Nat), .int m]), ?_, ?_⟩
      · refine ⟨_, rfl, rfl, _, rfl, ite2 (fun _ => ?_) fun _ => ?_⟩
        · refine ⟨_, rfl, _, _, rfl, rfl, ⟨by decide, by decide, by decide⟩, _, _, rfl, rfl, _, rfl, ite2 (fun _ => ?_) fun _ => ?_⟩
          · exact ⟨_, rfl, m, rfl, rfl⟩
          · exact ⟨g, rfl, rfl⟩
        · exact iteF ⟨g, rfl, rfl⟩
      · rintro σ' H' ⟨g', rfl, rfl⟩
        refine ⟨_, rfl, _, rfl, .inl ⟨_, rfl, _, _, rfl, rfl, (by show (0 : Int) < 2147483629; decide), _, _, rfl, rfl, _, _, rfl, rfl, .inr ⟨(by show -(2 ^ 64) < (48271 : Int); decide), (by show (48271 : Int) < 2 ^ 64; decide)⟩, _, rfl, _, _, rfl, rfl, .inl ⟨_, rfl, _, _, rfl, rfl, (by show (0 : Int) < 2147483647; decide), ?_⟩⟩⟩
        exact ⟨_, _, _, _, rfl, Int.emod_nonneg _ (by decide), Int.emod_lt_of_pos _ (by decide), sm.trans (Same.new hT)⟩
    · rintro σ H1 ⟨g, s, vk, vc, rfl, s0, s1, sm⟩
      refine ⟨_, rfl, _, rfl, (by show 3 ≤ sizeLine; decide), fun p hp => ?_⟩
      exact k p _ (sm.free hp) (sm.trans (Same.new hp)) ⟨g, s, 0, upd_same, s0, s1, by decide, by decide⟩

/-! ### _law_draw -/
def spDraw : Sp := fun vs H Q _ => ∃ (a : Addr) (many : Int) (n : Nat), vs = [.ref a, .int many] ∧ 0 < many ∧ many.natAbs < 2 ^ 200 ∧ Src H a (n + 1) ∧ ∀ v H', 0 ≤ v → v < many → Kp a H H' → Src H' a n → Q (.int v) H'
theorem scDraw : FnScope ["_law_source_here", "_law_many", "_law_value", "_law_stirred"] ["_law_source_here", "_law_many"] (defScope sDraw) := ⟨rfl, rfl, rfl, by decide +kernel, rfl, by decide +kernel, by decide +kernel⟩
theorem ok_draw {f : Addr} {fd : FuncData} (F : Fun K "_law_draw" "_law_draw" sDraw f fd) (mI : mg "int" = none) : FnOk P w K mg base CX0 1 f fd ["_law_source_here", "_law_many"] spDraw := by
  refine F.ok scDraw (fun vs H Q E h => ?_) (fun cdv A outer s H vs Q E hr h => ?_)
  · obtain ⟨a, m, n, rfl, _⟩ := h
    rfl
  · obtain ⟨a, many, n, rfl, m0, mb, ⟨g, sd, c, ha, s0, s1, c0, c1⟩, k⟩ := h
    refine ⟨_, pss_cons (ps_if (pt_cmpR op_gt (pe_ix ix_list (pv 0) pe_int (fun _ _ => rfl)) pe_int (nomark _))
        (pss_cons (ps_set (i := 2) scDraw.nd rfl (.inl rfl) (pe_op op_mod (pe_callTy call_int1 (by rfl) mI (by decide +kernel) (pa_cons (pe_ix ix_list (pv 0) pe_int (fun _ _ => rfl)) pa_nil)) (pv 1)))
        (pss_cons (ps_asg (pe_op op_fdivW (pe_ix ix_list (pv 0) pe_int (fun _ _ => rfl)) (pv 1)) (pg_sub (pv 0) pe_int set_list))
        (pss_one (ps_ret (pv 2))))) pss_nil)
      (pss_cons (ps_asg (pe_op op_add (pe_ix ix_list (pv 0) pe_int (fun _ _ => rfl)) pe_int) (pg_sub (pv 0) pe_int set_list))
      (pss_cons (ps_set (i := 3) scDraw.nd rfl (.inl rfl) (pe_op op_mod (pe_callTy call_int1 (by rfl) mI (by decide +kernel) (pa_cons (pe_op op_pow (pe_op op_add (pe_ix ix_list (pv 0) pe_int (fun _ _ => rfl)) (pe_op op_mul pe_int (pe_ix ix_list (pv 0) pe_int (fun _ _ => rfl)))) pe_int) pa_nil)) pe_int))
      (pss_one (ps_ret (pe_op op_mod (pe_callTy call_int1 (by rfl) mI (by decide +kernel) (pa_cons (pe_op op_mod (pe_callTy call_int1 (by rfl) mI (by decide +kernel) (pa_cons (pe_op op_mul (pe_op op_add (pv 3) (pe_ix ix_list (pv 0) pe_int (fun _ _ => rfl))) pe_int) pa_nil)) pe_int) pa_nil)) (pv 1)))))), ?_⟩
    refine ⟨_, rfl, a, _, _, _, rfl, rfl, .of ha, rfl, _, _, rfl, rfl, _, rfl, ite2 (fun _ => ?_) fun _ => ?_⟩
    · refine ⟨_, rfl, a, _, _, _, rfl, rfl, .of ha, rfl, .inl ⟨_, rfl, _, rfl, _, _, rfl, rfl, m0, ?_⟩⟩
      refine ⟨_, rfl, a, _, _, _, rfl, rfl, .of ha, rfl, _, rfl, _, _, rfl, rfl, wide_div m0 mb (by decide) (by decide), _, rfl, a, _, _, 0, rfl, rfl, ha, rfl, _, rfl, ?_⟩
      exact k _ _ (Int.emod_nonneg _ (by omega)) (Int.emod_lt_of_pos _ m0) (Kp.refl.put) ⟨g / many, sd, c, upd_same, s0, s1, c0, by omega⟩
    · refine ⟨_, rfl, a, _, _, _, rfl, rfl, .of ha, rfl, _, _, rfl, rfl, _, rfl, a, _, _, 2, rfl, rfl, ha, rfl, ?_⟩
      have h2 : (upd H a (.lst [.int g, .int sd, .int (c + 1)])) a = some (.lst [.int g, .int sd, .int (c + 1)]) := upd_same
      refine ⟨_, rfl, a, _, _, _, rfl, rfl, .of h2, rfl, _, rfl, a, _, _, _, rfl, rfl, .of h2, rfl, _, _, rfl, rfl, .inl ⟨(by show -(2 ^ 64) < (7919 : Int); decide), (by show (7919 : Int) < 2 ^ 64; decide)⟩, _, _, rfl, rfl, _, _, rfl, rfl, ⟨by decide, by decide, ?_⟩, .inl ⟨_, rfl, _, _, rfl, rfl, (by show (0 : Int) < 2147483647; decide), ?_⟩⟩
      · show (sd + 7919 * (c + 1)).natAbs < 2 ^ 64
        omega
      · refine ⟨_, rfl, _, rfl, a, _, _, _, rfl, rfl, .of h2, rfl, _, _, rfl, rfl, _, _, rfl, rfl, .inr ⟨(by show -(2 ^ 64) < (40692 : Int); decide), (by show (40692 : Int) < 2 ^ 64; decide)⟩, .inl ⟨_, rfl, _, _, rfl, rfl, (by show (0 : Int) < 2147483629; decide), .inl ⟨_, rfl, _, rfl, _, _, rfl, rfl, m0, ?_⟩⟩⟩
        exact k _ _ (Int.emod_nonneg _ (by omega)) (Int.emod_lt_of_pos _ m0) (Kp.refl.put) ⟨g, sd, c + 1, h2, s0, s1, by omega, by omega⟩
end
end Mf
namespace Mf
open PySem L2
section
variable {P : Program} {w : World} {K : PySem.W.Frag} {mg : Str → Option Value} {base : Heap}

/-! ### is_name -/
def nameB (z : Str) : Bool := decide (1 ≤ z.length) && decide (z.length ≤ 8) && z.cps.toList.all fun c => decide (97 ≤ c) && decide (c ≤ 122)
theorem nameB_iff (z : Str) : nameB z = true ↔ IsName z := by
  have h : z.length = z.cps.size := rfl
  unfold nameB IsName
  rw [h, Bool.and_eq_true_iff, Bool.and_eq_true_iff, List.all_eq_true]
  refine ⟨fun ⟨⟨a, b⟩, c⟩ => ⟨of_decide_eq_true a, of_decide_eq_true b, fun x hx => ?_⟩, fun ⟨a, b, c⟩ => ⟨⟨decide_eq_true a, decide_eq_true b⟩, fun x hx => ?_⟩⟩
  · have q := Bool.and_eq_true_iff.mp (c x hx)
    exact ⟨of_decide_eq_true q.1, of_decide_eq_true q.2⟩
  · have q := c x hx
    exact Bool.and_eq_true_iff.mpr ⟨decide_eq_true q.1, decide_eq_true q.2⟩
theorem sign_le (a b : Nat) : (!decide ([b] < [a])) = decide (a ≤ b) := by
  have e : ([b] < [a]) ↔ b < a := by
    rw [List.cons_lt_cons_iff]
    simp
  by_cases h : a ≤ b
  · rw [decide_eq_true h, decide_eq_false (fun q => by have := e.mp q; omega)]; rfl
  · rw [decide_eq_false h, decide_eq_true (e.mpr (by omega))]; rfl
theorem le_of_sign {c : Nat} (q : (!decide ([c] < [97])) = true) : 97 ≤ c := by
  rw [sign_le] at q; exact of_decide_eq_true q
theorem le_sign {c : Nat} (q : 97 ≤ c) : (!decide ([c] < [97])) = true := by
  rw [sign_le]; exact decide_eq_true q
def spIsName : Sp := fun vs H Q _ => ∃ z : Str, vs = [.str z] ∧ z.length ≤ sizeLine ∧ ∀ H', Same H H' → Q (.bl (nameB z)) H'
abbrev sIs_name : Stmt := top 19
theorem scIs_name : FnScope ["value", "letter"] ["value"] (defScope sIs_name) := ⟨rfl, rfl, rfl, by decide +kernel, rfl, by decide +kernel, by decide +kernel⟩
theorem ok_is_name {f : Addr} {fd : FuncData} {t : Tok} (F : Fun K "is_name" "is_name" sIs_name f fd) (mIsi : mg "isinstance" = none) (mStr : mg "str" = none) (mLen : mg "len" = none) (mAll : mg "all" = none) (mg_LONGEST_NAME : mg "LONGEST_NAME" = some (.int 8 t)) : FnOk P w K mg base CX0 1 f fd ["value"] spIsName := by
  refine F.ok scIs_name (fun vs H Q E h => ?_) (fun cdv A outer s H vs Q E hr h => ?_)
  · obtain ⟨z, rfl, _⟩ := h
    rfl
  · obtain ⟨z, rfl, hz, k⟩ := h
    refine ⟨_, (pss_cons (ps_if (PW.pt (pw_or (pt_not (pt_val (pe_callB (k_isi K) (by rfl) mIsi (by decide +kernel) (pa_cons (pv 0) (pa_cons (pe_bltn (v := .ty "str") (by rfl) mStr (by decide +kernel) rfl) pa_nil))))) (pw_or1 (pt_not (pt_chain op_le op_le pe_int (pe_callB call_len_str (by rfl) mLen (by decide +kernel) (pa_cons (pv 0) pa_nil)) (pe_glob (v := .int 8) rfl mg_LONGEST_NAME ⟨_, rfl⟩))))))
        (pss_one (ps_ret pe_bl)) pss_nil)
      (pss_one (ps_ret (pe_callB (k_all K) (by rfl) mAll (by decide +kernel) (pa_cons (pe_lc (own := [("letter", 1)]) (g := (gName 1)) (tt := tYes) rfl scIs_name.nd (pi_str (pv 0)) (blkOk_by (own := [("letter", 1)]) (N := ["value", "letter"]) (sc := defScope sIs_name) (by decide +kernel)) (fun _ _ _ _ _ => (pg_name (i := 1) scIs_name.nd rfl (by first | exact Or.inl rfl | exact Or.inr rfl))) (fun _ _ _ _ _ => pts_nil) (fun _ _ _ _ _ => (pe_chain op_le_str op_le_str pe_str (pv 1) pe_str))) pa_nil))))), ?_⟩
    refine ⟨_, rfl, _, _, _, _, true, rfl, .ty _, .base (.str _), kit_ty (by decide +kernel), _, rfl, iteF ?_⟩
    refine ⟨_, rfl, z, rfl, hz, _, _, rfl, rfl, _, rfl, ite2 (fun a1 => ?_) fun a1 => ?_⟩
    · have b1 : 1 ≤ z.length := by have := of_decide_eq_true a1; omega
      refine ⟨_, _, rfl, rfl, _, rfl, ite2 (fun a2 => ?_) fun a2 => ?_⟩
      · have b2 : ¬ z.length ≤ 8 := fun q => by
          rw [decide_eq_true (by omega : (z.length : Int) ≤ 8)] at a2; cases a2
        have e : nameB z = false := by unfold nameB; rw [decide_eq_false b2, Bool.and_false, Bool.false_and]
        have q := k H (Same.refl H)
        rw [e] at q; exact q
      · have b2 : z.length ≤ 8 := by
          by_cases q : z.length ≤ 8
          · exact q
          · rw [decide_eq_false (by omega : ¬ (z.length : Int) ≤ 8)] at a2; exact absurd a2 (by decide)
        refine ⟨_, rfl, _, rfl, fun D hD => ?_⟩
        refine lc_it walk_str (fun i H' => H' D = some (.lst (((z.cps.toList.take i).map fun c => decide (97 ≤ c) && decide (c ≤ 122)).map V.bl)) ∧ Same H H') ⟨upd_same, Same.new hD⟩ (fun _ _ _ _ => trivial) ?_ ?_
        · rintro i x H4 H5 hi ⟨h4, s4⟩ ⟨rfl, c, hc, rfl⟩
          refine ⟨rfl, yes_then ?_⟩
          have hc' : z.cps.toList[i]? = some c := by rw [Array.getElem?_toList]; exact hc
          have hlen : i < z.length := hi
          have fin : ∀ b : Bool, b = (decide (97 ≤ c) && decide (c ≤ 122)) → ∃ acc, H5 D = some (.lst acc) ∧ acc.length < sizeLine ∧
              upd H5 D (.lst (acc ++ [.bl b])) D = some (.lst (((z.cps.toList.take (i + 1)).map fun c => decide (97 ≤ c) && decide (c ≤ 122)).map V.bl)) ∧ Same H (upd H5 D (.lst (acc ++ [.bl b]))) := by
            rintro b rfl
            refine ⟨_, h4, ?_, ?_, s4.mut hD⟩
            · rw [List.length_map, List.length_map]
              exact Nat.lt_of_le_of_lt (List.length_take_le _ _) (Nat.lt_of_lt_of_le (by omega : i < 9) (by decide))
            · rw [upd_same, List.take_add_one, hc', List.map_append, List.map_append]; rfl
          refine ⟨_, rfl, _, _, rfl, rfl, _, rfl, ite2 (fun q => ?_) fun q => ?_⟩
          · refine ⟨_, _, rfl, rfl, ?_⟩
            refine fin _ ?_
            have e1 : 97 ≤ c := le_of_sign q
            rw [decide_eq_true e1, Bool.true_and]
            exact sign_le c 122
          · refine fin false ?_
            have e1 : ¬ 97 ≤ c := fun h => q (le_sign h)
            rw [decide_eq_false e1, Bool.false_and]
        · rintro H4 ⟨h4, s4⟩
          refine ⟨D, _, rfl, .of h4, ?_⟩
          have e : nameB z = (((z.cps.toList.take z.cps.size).map fun c => decide (97 ≤ c) && decide (c ≤ 122)).all id) := by
            unfold nameB
            rw [decide_eq_true b1, decide_eq_true b2, List.take_of_length_le (by rw [Array.length_toList]; exact Nat.le_refl _), List.all_map]
            rfl
          have q := k H4 s4
          rw [e] at q
          exact q
    · have b1 : ¬ 1 ≤ z.length := fun q => by
        rw [decide_eq_true (by omega : (1 : Int) ≤ z.length)] at a1; exact a1 rfl
      have e : nameB z = false := by unfold nameB; rw [decide_eq_false b1, Bool.false_and, Bool.false_and]
      have q := k H (Same.refl H)
      rw [e] at q
      exact ⟨_, rfl, iteT q⟩
end
end Mf
namespace Mf
open PySem L2
section
variable {P : Program} {w : World} {K : PySem.W.Frag} {mg : Str → Option Value} {base : Heap}

/-! ### _is_step, of two texts -/
def kinds : List Str := ["read", "say", "call", "try"]
def stepB (kd wd : Str) : Bool := decide (kd ∈ kinds) && nameB wd
def spIsStep : Sp := fun vs H Q _ => ∃ (t : Addr) (kd wd : Str), vs = [.ref t] ∧ H t = some (.tup [.str kd, .str wd]) ∧ wd.length ≤ sizeLine ∧ ∀ H', Same H H' → Q (.bl (stepB kd wd)) H'
abbrev sIs_step : Stmt := top 28
theorem scIs_step : FnScope ["step"] ["step"] (defScope sIs_step) := ⟨rfl, rfl, rfl, by decide +kernel, rfl, by decide +kernel, by decide +kernel⟩
theorem ok_is_step {f aK : Addr} {fd : FuncData} (F : Fun K "_is_step" "_is_step" sIs_step f fd) (mIsi : mg "isinstance" = none) (mTuple : mg "tuple" = none) (mLen : mg "len" = none) (mg_KINDS : mg "KINDS" = some (.ref aK)) (qK : ∀ H, SqT K H aK (kinds.map V.str))
    (c_is_name : Cal P w K mg base CX0 1 "is_name" ["value"] spIsName) : FnOk P w K mg base CX0 2 f fd ["step"] spIsStep := by
  refine F.ok scIs_step (fun vs H Q E h => ?_) (fun cdv A outer s H vs Q E hr h => ?_)
  · obtain ⟨t, kd, wd, rfl, _⟩ := h
    rfl
  · obtain ⟨t, kd, wd, rfl, ht, hw, k⟩ := h
    have hr_is_name := hr
    refine ⟨_, (pss_one (ps_ret (pe_and (pe_callB (k_isi K) (by rfl) mIsi (by decide +kernel) (pa_cons (pv 0) (pa_cons (pe_bltn (v := .ty "tuple") (by rfl) mTuple (by decide +kernel) rfl) pa_nil))) (pe_and (pe_cmpR op_eq (pe_callB (k_len K) (by rfl) mLen (by decide +kernel) (pa_cons (pv 0) pa_nil)) pe_int (nomark _)) (pe_and (pe_cmpR (oin K) (pe_ix (ixt K) (pv 0) pe_int (fun _ _ => rfl)) (pe_glob (v := .ref _) rfl mg_KINDS rfl) (by rfl)) (pe_one (pe_cal c_is_name hr_is_name pass0 (pa_cons (pe_ix (ixt K) (pv 0) pe_int (fun _ _ => rfl)) pa_nil)))))))), ?_⟩
    refine ⟨_, rfl, _, _, _, _, true, rfl, .ty _, .base (.tup ht), kit_ty (by decide +kernel), _, rfl, iteT ?_⟩
    refine ⟨_, rfl, t, _, rfl, .inr (.of ht), ?_⟩
    refine ⟨rfl, _, rfl, iteT ?_⟩
    refine ⟨_, rfl, t, _, 0, _, rfl, rfl, .of ht, rfl, ?_⟩
    refine ⟨aK, _, rfl, .inr (qK _), rfl, flat_strs kinds, _, rfl, ?_⟩
    show if inV (.str kd) (kinds.map V.str) = true then _ else _
    rw [inV_str]
    refine ite2 (fun q => ?_) fun q => ?_
    · refine ⟨_, rfl, t, _, 1, _, rfl, rfl, .of ht, rfl, wd, rfl, hw, fun H' s' => ?_⟩
      have e : stepB kd wd = nameB wd := by unfold stepB; rw [q, Bool.true_and]
      have z := k H' s'
      rw [e] at z; exact z
    · have e : stepB kd wd = false := by unfold stepB; rw [Bool.eq_false_iff.mpr q, Bool.false_and]
      have z := k H (Same.refl H)
      rw [e] at z; exact z
end
end Mf
namespace Mf
open PySem L2
section
variable {P : Program} {w : World} {K : PySem.W.Frag} {mg : Str → Option Value} {base : Heap}

/-! ### _is_body, of steps that are two texts -/
/-- the steps ss lie at the addresses ts -/
def StA (H : Hp) (ts : List Addr) (ss : List (Str × Str)) : Prop := Paired (fun t s => H t = some (.tup [.str s.1, .str s.2])) ts ss
theorem StA.same {H H' : Hp} {ts : List Addr} {ss : List (Str × Str)} (x : StA H ts ss) (h : Same H H') : StA H' ts ss := by
  induction x with
  | nil => exact .nil
  | cons a _ ih => exact .cons (h _ _ a) ih
theorem StA.get {H : Hp} {ts : List Addr} {ss : List (Str × Str)} (x : StA H ts ss) {i : Nat} {t : Addr} (h : ts[i]? = some t) : ∃ s, ss[i]? = some s ∧ H t = some (.tup [.str s.1, .str s.2]) := by
  induction x generalizing i with
  | nil => simp at h
  | cons a _ ih =>
    match i, h with
    | 0, h => cases h; exact ⟨_, rfl, a⟩
    | i + 1, h => exact ih h
theorem SameL {t : Addr} {H H' : Hp} {xs : List V} (x : Same H H') (h : SqL K H t xs) : SqL K H' t xs := by
  rcases h with (h | ⟨o, h⟩) | h
  · exact .inl (.inl (x _ _ h))
  · exact .inl (.inr ⟨o, x _ _ h⟩)
  · exact .inr h
theorem StA.mem {ss : List (Str × Str)} {i : Nat} {s : Str × Str} (h : ss[i]? = some s) : s ∈ ss := List.mem_of_getElem? h
def bodyB (ss : List (Str × Str)) : Bool := decide (ss.length ≤ 12) && ss.all fun s => stepB s.1 s.2
def spIsBody (K : PySem.W.Frag) : Sp := fun vs H Q _ => ∃ (b : Addr) (ts : List Addr) (ss : List (Str × Str)), vs = [.ref b] ∧ (SqL K H b (ts.map V.ref) ∨ SqT K H b (ts.map V.ref)) ∧ StA H ts ss ∧ (∀ s ∈ ss, s.2.length ≤ sizeLine) ∧
  ∀ H', Same H H' → Q (.bl (bodyB ss)) H'
abbrev sIs_body : Stmt := top 27
theorem scIs_body : FnScope ["steps", "step"] ["steps"] (defScope sIs_body) := ⟨rfl, rfl, rfl, by decide +kernel, rfl, by decide +kernel, by decide +kernel⟩
theorem ok_is_body {f : Addr} {fd : FuncData} {tk : Tok} (F : Fun K "_is_body" "_is_body" sIs_body f fd) (mLen : mg "len" = none) (mAll : mg "all" = none) (mg_MOST_STEPS : mg "MOST_STEPS" = some (.int 12 tk))
    (c__is_step : Cal P w K mg base CX0 2 "_is_step" ["step"] spIsStep) : FnOk P w K mg base CX0 3 f fd ["steps"] (spIsBody K) := by
  refine F.ok scIs_body (fun vs H Q E h => ?_) (fun cdv A outer s H vs Q E hr h => ?_)
  · obtain ⟨b, ts, ss, rfl, _⟩ := h
    rfl
  · obtain ⟨b, ts, ss, rfl, hb, st, hw, k⟩ := h
    have hr__is_step := hr
    have ln : ts.length = ss.length := Paired.length st
    rcases hb with hb | hb
    · refine ⟨_, (pss_one (ps_ret (pe_and (pe_cmpR op_le (pe_callB (k_len K) (by rfl) mLen (by decide +kernel) (pa_cons (pv 0) pa_nil)) (pe_glob (v := .int 12) rfl mg_MOST_STEPS ⟨_, rfl⟩) (nomark _)) (pe_one (pe_callB (k_all K) (by rfl) mAll (by decide +kernel) (pa_cons (pe_lc (own := [("step", 1)]) (g := (gName 1)) (tt := tYes) rfl scIs_body.nd (pi_list (pv 0)) (blkOk_by (own := [("step", 1)]) (N := ["steps", "step"]) (sc := defScope sIs_body) (by decide +kernel)) (fun _ _ _ _ _ => (pg_name (i := 1) scIs_body.nd rfl (by first | exact Or.inl rfl | exact Or.inr rfl))) (fun _ _ _ _ _ => pts_nil) (fun _ _ _ _ _ => (pe_cal c__is_step hr__is_step pass0 (pa_cons (pv 1) pa_nil)))) pa_nil)))))), ?_⟩
      refine ⟨_, rfl, b, _, rfl, .inl hb, _, _, rfl, rfl, _, rfl, ite2 (fun q => ?_) fun q => ?_⟩
      · have few : decide (ss.length ≤ 12) = true := by
          have q := of_decide_eq_true q
          rw [List.length_map, ln] at q
          exact decide_eq_true (by omega)
        refine ⟨_, rfl, b, rfl, ⟨_, hb⟩, fun D hD => ?_⟩
        refine lc_it walk_list (fun i H' => H' D = some (.lst (((ss.take i).map fun s => stepB s.1 s.2).map V.bl)) ∧ Same H H') ⟨upd_same, Same.new hD⟩ (fun i H' _ q => SameL q.2 hb) ?_ ?_
        · rintro i x H4 H5 hi ⟨h4, s4⟩ ⟨rfl, hx⟩
          rw [List.getElem?_map] at hx
          obtain ⟨t, ht, rfl⟩ := Option.map_eq_some_iff.mp hx
          obtain ⟨s, hs, hts⟩ := st.get ht
          have li : i < ts.length := by rw [List.length_map] at hi; exact hi
          have f12 : ss.length ≤ 12 := of_decide_eq_true few
          refine ⟨rfl, yes_then ?_⟩
          refine ⟨_, rfl, t, s.1, s.2, rfl, s4 _ _ hts, hw s (StA.mem hs), fun H6 s6 => ⟨_, s6 _ _ h4, ?_, ?_, (s4.trans s6).mut hD⟩⟩
          · rw [List.length_map, List.length_map]
            exact Nat.lt_of_le_of_lt (List.length_take_le _ _) (Nat.lt_of_lt_of_le (by omega : i < 12) (by decide))
          · rw [upd_same, List.take_add_one, hs, List.map_append, List.map_append]; rfl
        · rintro H4 ⟨h4, s4⟩
          refine ⟨D, _, rfl, .of h4, ?_⟩
          have e : bodyB ss = (((ss.take (ts.map V.ref).length).map fun s => stepB s.1 s.2).all id) := by
            unfold bodyB
            rw [few, Bool.true_and, List.take_of_length_le (by rw [List.length_map, ln]; exact Nat.le_refl _), List.all_map]
            rfl
          have z := k H4 s4
          rw [e] at z
          exact z
      · have few : decide (ss.length ≤ 12) = false := by
          refine decide_eq_false fun h => q (decide_eq_true ?_)
          rw [List.length_map, ln]
          omega
        have e : bodyB ss = false := by unfold bodyB; rw [few, Bool.false_and]
        have z := k H (Same.refl H)
        rw [e] at z
        exact z
    · refine ⟨_, (pss_one (ps_ret (pe_and (pe_cmpR op_le (pe_callB (k_len K) (by rfl) mLen (by decide +kernel) (pa_cons (pv 0) pa_nil)) (pe_glob (v := .int 12) rfl mg_MOST_STEPS ⟨_, rfl⟩) (nomark _)) (pe_one (pe_callB (k_all K) (by rfl) mAll (by decide +kernel) (pa_cons (pe_lc (own := [("step", 1)]) (g := (gName 1)) (tt := tYes) rfl scIs_body.nd (pi_tup (pv 0)) (blkOk_by (own := [("step", 1)]) (N := ["steps", "step"]) (sc := defScope sIs_body) (by decide +kernel)) (fun _ _ _ _ _ => (pg_name (i := 1) scIs_body.nd rfl (by first | exact Or.inl rfl | exact Or.inr rfl))) (fun _ _ _ _ _ => pts_nil) (fun _ _ _ _ _ => (pe_cal c__is_step hr__is_step pass0 (pa_cons (pv 1) pa_nil)))) pa_nil)))))), ?_⟩
      refine ⟨_, rfl, b, _, rfl, .inr hb, _, _, rfl, rfl, _, rfl, ite2 (fun q => ?_) fun q => ?_⟩
      · have few : decide (ss.length ≤ 12) = true := by
          have q := of_decide_eq_true q
          rw [List.length_map, ln] at q
          exact decide_eq_true (by omega)
        refine ⟨_, rfl, b, rfl, ⟨_, hb⟩, fun D hD => ?_⟩
        refine lc_it walk_tup (fun i H' => H' D = some (.lst (((ss.take i).map fun s => stepB s.1 s.2).map V.bl)) ∧ Same H H') ⟨upd_same, Same.new hD⟩ (fun i H' _ q => q.2.tup hb) ?_ ?_
        · rintro i x H4 H5 hi ⟨h4, s4⟩ ⟨rfl, hx⟩
          rw [List.getElem?_map] at hx
          obtain ⟨t, ht, rfl⟩ := Option.map_eq_some_iff.mp hx
          obtain ⟨s, hs, hts⟩ := st.get ht
          have li : i < ts.length := by rw [List.length_map] at hi; exact hi
          have f12 : ss.length ≤ 12 := of_decide_eq_true few
          refine ⟨rfl, yes_then ?_⟩
          refine ⟨_, rfl, t, s.1, s.2, rfl, s4 _ _ hts, hw s (StA.mem hs), fun H6 s6 => ⟨_, s6 _ _ h4, ?_, ?_, (s4.trans s6).mut hD⟩⟩
          · rw [List.length_map, List.length_map]
            exact Nat.lt_of_le_of_lt (List.length_take_le _ _) (Nat.lt_of_lt_of_le (by omega : i < 12) (by decide))
          · rw [upd_same, List.take_add_one, hs, List.map_append, List.map_append]; rfl
        · rintro H4 ⟨h4, s4⟩
          refine ⟨D, _, rfl, .of h4, ?_⟩
          have e : bodyB ss = (((ss.take (ts.map V.ref).length).map fun s => stepB s.1 s.2).all id) := by
            unfold bodyB
            rw [few, Bool.true_and, List.take_of_length_le (by rw [List.length_map, ln]; exact Nat.le_refl _), List.all_map]
            rfl
          have z := k H4 s4
          rw [e] at z
          exact z
      · have few : decide (ss.length ≤ 12) = false := by
          refine decide_eq_false fun h => q (decide_eq_true ?_)
          rw [List.length_map, ln]
          omega
        have e : bodyB ss = false := by unfold bodyB; rw [few, Bool.false_and]
        have z := k H (Same.refl H)
        rw [e] at z
        exact z
end
end Mf
namespace Mf
open PySem L2
section
variable {P : Program} {w : World} {K : PySem.W.Frag} {mg : Str → Option Value} {base : Heap}

/-! ### _checked_bodies, of procedures that are right -/
/-- a procedure: its name, where its body lies, where its steps lie, the steps -/
structure Pr where
  name : Str
  b : Addr
  ts : List Addr
  ss : List (Str × Str)
def PrA (K : PySem.W.Frag) (H : Hp) (p : Addr) (r : Pr) : Prop := SqT K H p [.str r.name, .ref r.b] ∧ (SqL K H r.b (r.ts.map V.ref) ∨ SqT K H r.b (r.ts.map V.ref)) ∧ StA H r.ts r.ss
theorem PrA.same {H H' : Hp} {p : Addr} {r : Pr} (x : PrA K H p r) (h : Same H H') : PrA K H' p r :=
  ⟨h.tup x.1, x.2.1.elim (fun q => .inl (SameL h q)) (fun q => .inr (h.tup q)), x.2.2.same h⟩
def Right (r : Pr) : Prop := IsName r.name ∧ bodyB r.ss = true ∧ ∀ s ∈ r.ss, s.2.length ≤ sizeLine
/-- the dict of the bodies: names to where the tuples lie -/
def kvsOf : List Pr → List Addr → List (Key × V)
  | r :: rs, u :: us => (Sum.inr r.name, V.ref u) :: kvsOf rs us
  | _, _ => []
def BoA (K : PySem.W.Frag) (H : Hp) (us : List Addr) (rs : List Pr) : Prop := Paired (fun u r => SqT K H u (r.ts.map V.ref)) us rs
theorem BoA.same {H H' : Hp} {us : List Addr} {rs : List Pr} (x : BoA K H us rs) (h : Same H H') : BoA K H' us rs := by
  induction x with
  | nil => exact .nil
  | cons a _ ih => exact .cons (h.tup a) ih
theorem kvsOf_snoc : ∀ {rs : List Pr} {us : List Addr} (r : Pr) (u : Addr), us.length = rs.length → kvsOf (rs ++ [r]) (us ++ [u]) = kvsOf rs us ++ [(Sum.inr r.name, V.ref u)]
  | [], [], r, u, _ => rfl
  | a :: rs, b :: us, r, u, h => by
    show _ :: kvsOf (rs ++ [r]) (us ++ [u]) = _
    rw [kvsOf_snoc r u (by simpa using h)]; rfl
  | [], b :: us, _, _, h => by simp at h
  | a :: rs, [], _, _, h => by simp at h
theorem kvsOf_any : ∀ {rs : List Pr} {us : List Addr} {z : Str}, us.length = rs.length → (kvsOf rs us).any (fun kv => decide (kv.1 = Sum.inr z)) = decide (z ∈ rs.map Pr.name)
  | [], [], z, _ => by simp [kvsOf]
  | a :: rs, b :: us, z, h => by
    show (decide ((Sum.inr a.name : Key) = Sum.inr z) || (kvsOf rs us).any _) = _
    rw [kvsOf_any (by simpa using h)]
    by_cases e : a.name = z
    · simp [e]
    · simp [e, Ne.symm e]
  | [], b :: us, _, h => by simp at h
  | a :: rs, [], _, h => by simp at h
theorem kvsOf_len : ∀ {rs : List Pr} {us : List Addr}, us.length = rs.length → (kvsOf rs us).length = rs.length
  | [], [], _ => rfl
  | a :: rs, b :: us, h => by
    show (kvsOf rs us).length + 1 = rs.length + 1
    rw [kvsOf_len (by simpa using h)]
  | [], b :: us, h => by simp at h
  | a :: rs, [], h => by simp at h
def spChecked (K : PySem.W.Frag) : Sp := fun vs H Q _ => ∃ (a : Addr) (ps : List Addr) (rs : List Pr), vs = [.ref a] ∧ (SqL K H a (ps.map V.ref) ∨ SqT K H a (ps.map V.ref)) ∧ Paired (PrA K H) ps rs ∧ rs.length ≤ 16 ∧ rs ≠ [] ∧ (rs.map Pr.name).Nodup ∧ (∀ r ∈ rs, Right r) ∧
  ∀ d us H', H' d = some (.dK (kvsOf rs us)) → BoA K H' us rs → Same H H' → Q (.ref d) H'
abbrev sChecked_bodies : Stmt := top 26
theorem scChecked_bodies : FnScope ["procedures", "bodies", "line", "name", "body"] ["procedures"] (defScope sChecked_bodies) := ⟨rfl, rfl, rfl, by decide +kernel, rfl, by decide +kernel, by decide +kernel⟩
theorem paired_get {α β : Type} {R : α → β → Prop} {xs : List α} {ys : List β} (r : Paired R xs ys) {i : Nat} {x : α} (h : xs[i]? = some x) : ∃ y, ys[i]? = some y ∧ R x y := by
  induction r generalizing i with
  | nil => simp at h
  | cons a _ ih =>
    match i, h with
    | 0, h => cases h; exact ⟨_, rfl, a⟩
    | i + 1, h => exact ih h
theorem paired_snoc {α β : Type} {R : α → β → Prop} {xs : List α} {ys : List β} (r : Paired R xs ys) {x : α} {y : β} (h : R x y) : Paired R (xs ++ [x]) (ys ++ [y]) := by
  induction r with
  | nil => exact .cons h .nil
  | cons a _ ih => exact .cons a ih
theorem SqT_put {H : Hp} {d u : Addr} {o : HO} {kvs : List (Key × V)} {xs : List V} (h : H d = some (.dK kvs)) (x : SqT K H u xs) : SqT K (upd H d o) u xs := by
  rcases x with (x | ⟨q, x⟩) | x
  · exact .inl (.inl (by rw [upd_ne (fun e => by rw [e, h] at x; simp at x)]; exact x))
  · exact .inl (.inr ⟨q, by rw [upd_ne (fun e => by rw [e, h] at x; simp at x)]; exact x⟩)
  · exact .inr x
theorem BoA.put {H : Hp} {d : Addr} {o : HO} {kvs : List (Key × V)} {us : List Addr} {rs : List Pr} (h : H d = some (.dK kvs)) (x : BoA K H us rs) : BoA K (upd H d o) us rs := by
  induction x with
  | nil => exact .nil
  | cons a _ ih => exact .cons (SqT_put h a) ih
theorem fresh_name {rs : List Pr} {i : Nat} {r : Pr} (nd : (rs.map Pr.name).Nodup) (h : rs[i]? = some r) : r.name ∉ (rs.take i).map Pr.name := by
  intro m
  rw [List.map_take] at m
  obtain ⟨j, hj, e⟩ := List.mem_take_iff_getElem.mp m
  have hi : i < rs.length := by
    rcases Nat.lt_or_ge i rs.length with q | q
    · exact q
    · rw [List.getElem?_eq_none q] at h; cases h
  have hr : rs[i] = r := by rw [List.getElem?_eq_getElem hi] at h; exact Option.some.inj h
  have e2 : (rs.map Pr.name)[i]'(by simpa using hi) = r.name := by rw [List.getElem_map, hr]
  have hl : i < (rs.map Pr.name).length := by simpa using hi
  exact (List.pairwise_iff_getElem.mp nd) j i (by omega) hl (by omega) (e.trans e2.symm)
theorem no_val {kvs : List (Key × V)} {k : Key} (h : kvs.any (fun kv => decide (kv.1 = k)) = false) : valV kvs k = none := by
  unfold valV
  rw [List.find?_eq_none.mpr]
  · rfl
  · intro x hx q
    have := List.any_eq_false.mp h x hx
    exact this q
theorem ok_checked {f : Addr} {fd : FuncData} {tk : Tok} (F : Fun K "_checked_bodies" "_checked_bodies" sChecked_bodies f fd) (mEnum : mg "enumerate" = none) (mTuple : mg "tuple" = none) (mg_MOST_PROCEDURES : mg "MOST_PROCEDURES" = some (.int 16 tk))
    (c_is_name : Cal P w K mg base CX0 1 "is_name" ["value"] spIsName) (c__is_body : Cal P w K mg base CX0 3 "_is_body" ["steps"] (spIsBody K)) : FnOk P w K mg base CX0 4 f fd ["procedures"] (spChecked K) := by
  refine F.ok scChecked_bodies (fun vs H Q E h => ?_) (fun cdv A outer s H vs Q E hr h => ?_)
  · obtain ⟨a, ps, rs, rfl, _⟩ := h
    rfl
  · obtain ⟨a, ps, rs, rfl, ha, pr, few, ne, nd, ri, k⟩ := h
    have hr__is_body := hr
    have hr_is_name := hr.mono (by omega : 1 ≤ 3)
    have ln : ps.length = rs.length := Paired.length pr
    have hu : (A.deeper (PyProof.Rows.envOfC "_checked_bodies" (defScope sChecked_bodies) s.heap.objs.size f cdv)).units + 1 < cLine := by have := hr.units; omega
    refine ⟨_, (pss_cons (ps_set (i := 1) scChecked_bodies.nd rfl (by first | exact Or.inl rfl | exact Or.inr rfl) pe_dnewK)
      (pss_cons (ps_for PassesOwn.never rfl (pi_enumS (by rfl) mEnum (pa_cons (pv 0) pa_nil) (by decide) (by decide)) (pg_tup rfl (pgs_cons (pg_name (i := 2) scChecked_bodies.nd rfl (by first | exact Or.inl rfl | exact Or.inr rfl)) (pgs_cons (pg_tup rfl (pgs_cons (pg_name (i := 3) scChecked_bodies.nd rfl (by first | exact Or.inl rfl | exact Or.inr rfl)) (pgs_cons (pg_name (i := 4) scChecked_bodies.nd rfl (by first | exact Or.inl rfl | exact Or.inr rfl)) pgs_nil))) pgs_nil)))
        (pss_cons (ps_if (PW.pt (pw_or (pt_cmpR op_gt (pv 2) (pe_glob (v := .int 16) rfl mg_MOST_PROCEDURES ⟨_, rfl⟩) (nomark _)) (pw_or (pt_not (pt_val (pe_cal c_is_name hr_is_name pass0 (pa_cons (pv 3) pa_nil)))) (pw_or (pt_cmp (pc_din hu (pv 3) (pv 1))) (pw_or1 (pt_not (pt_val (pe_cal c__is_body hr__is_body pass0 (pa_cons (pv 4) pa_nil)))))))))
          (pss_one ps_never) pss_nil)
        (pss_one (ps_asg (pe_callTy (k_tuple K) (by rfl) mTuple (by decide +kernel) (pa_cons (pv 4) pa_nil)) (pg_sub (pv 1) (pv 3) (set_dict hu))))))
      (pss_cons (ps_if (pt_not (pt_truth (pv 1) (by intro _; rfl)))
        (pss_one ps_never) pss_nil)
      (pss_one (ps_ret (pv 1)))))), ?_⟩
    refine fun d hd => ?_
    have s0 := Same.new (o := .dK []) hd
    refine ⟨_, rfl, a, ps.map V.ref, rfl, ?_⟩
    rcases ha with ha | ha
    · refine .inl ⟨SameL s0 ha, ?_⟩
      refine for_it walk_enumSL (fun i σ H' => ∃ (us : List Addr) (vl vn vb : Option V), σ = [some (.ref a), some (.ref d), vl, vn, vb] ∧ us.length = i ∧ H' d = some (.dK (kvsOf (rs.take i) us)) ∧ BoA K H' us (rs.take i) ∧ Same H H') ⟨[], none, none, none, rfl, rfl, upd_same, .nil, s0⟩ (fun i σ H' _ q => SameL q.choose_spec.choose_spec.choose_spec.choose_spec.2.2.2.2 ha) ?_ ?_
      · rintro i x σ H1 H2 hi ⟨us, vl, vn, vb, rfl, lu, h1, bo, s1⟩ ⟨T, x1, y, rfl, hT, rfl, e1, e2⟩
        obtain rfl : x1 = .int (1 + (i : Nat)) := (Option.some.inj e1).symm
        have e2 : (ps.map V.ref)[i]? = some y := e2
        rw [List.getElem?_map] at e2
        obtain ⟨p, hp, rfl⟩ := Option.map_eq_some_iff.mp e2
        obtain ⟨r, hr2, pa⟩ := paired_get pr hp
        have rm : r ∈ rs := List.mem_of_getElem? hr2
        obtain ⟨nm, bb, ls⟩ := ri r rm
        have ir : i < rs.length := by rw [← ln]; simpa using hi
        have s2 := s1.trans (Same.new (o := .tup [.int (1 + (i : Nat)), .ref p]) hT)
        have p2 := pa.same s2
        have h2 := (Same.new (o := .tup [.int (1 + (i : Nat)), .ref p]) hT) _ _ h1
        have bo2 := bo.same (Same.new (o := .tup [.int (1 + (i : Nat)), .ref p]) hT)
        have lt : us.length = (rs.take i).length := by rw [lu, List.length_take]; omega
        refine ⟨T, _, rfl, .of upd_same, rfl, _, _, rfl, _, _, rfl, p, _, rfl, p2.1, rfl, _, _, rfl, _, _, rfl, rfl, rfl, ?_⟩
        refine ⟨_, rfl, _, _, rfl, rfl, _, rfl, ite2 (fun q => by have := of_decide_eq_true q; omega) fun _ => ?_⟩
        refine ⟨_, rfl, r.name, rfl, Nat.le_trans nm.len (by decide), fun H3 s3 => ⟨_, rfl, ?_⟩⟩
        show if (!nameB r.name) = true then _ else _
        rw [(nameB_iff _).mpr nm]
        refine iteF ?_
        have an : (kvsOf (rs.take i) us).any (fun kv => decide (kv.1 = Sum.inr r.name)) = false := by
          rw [kvsOf_any lt, decide_eq_false (fresh_name nd hr2)]
        refine ⟨_, rfl, _, rfl, d, none, rfl, .inl ⟨_, Sum.inr r.name, .inl (s3 _ _ h2), rfl, (no_val an).symm⟩, _, rfl, iteF ?_⟩
        have p3 := p2.same s3
        refine ⟨_, rfl, r.b, r.ts, r.ss, rfl, p3.2.1, p3.2.2, ls, fun H4 s4 => ⟨_, rfl, ?_⟩⟩
        show if (!bodyB r.ss) = true then _ else _
        rw [bb]
        refine iteF ?_
        have h4 := s4 _ _ (s3 _ _ h2)
        have bo4 := (bo2.same s3).same s4
        have p4 := p3.same s4
        have s5 := (s2.trans s3).trans s4
        have tk1 : rs.take (i + 1) = rs.take i ++ [r] := by rw [List.take_add_one, hr2]; rfl
        have kl : (kvsOf (rs.take i) us).length < sizeLine := by
          rw [kvsOf_len lt, List.length_take]
          exact Nat.lt_of_lt_of_le (by omega : _ < 17) (by decide)
        have pk : ∀ u : Addr, putK (kvsOf (rs.take i) us) (Sum.inr r.name) (V.ref u) = kvsOf (rs.take (i + 1)) (us ++ [u]) := fun u => by
          unfold putK
          rw [an, tk1, kvsOf_snoc r u lt]; rfl
        have d0 : H d = none := hd
        rcases p4.2.1 with hb | hb
        · refine ⟨_, rfl, r.b, _, rfl, .inl ⟨hb, fun u hu => ?_⟩⟩
          have h5 := (Same.new (o := .tup (r.ts.map V.ref)) hu) _ _ h4
          have bo5 := bo4.same (Same.new (o := .tup (r.ts.map V.ref)) hu)
          refine ⟨_, rfl, _, rfl, d, _, rfl, .inl ⟨_, Sum.inr r.name, h5, rfl, kl, rfl⟩, ?_⟩
          refine ⟨us ++ [u], _, _, _, rfl, by rw [List.length_append, lu]; rfl, by rw [upd_same, pk u], ?_, (s5.trans (Same.new hu)).mut d0⟩
          rw [tk1]
          exact paired_snoc (bo5.put h5) (SqT_put h5 (.of upd_same))
        · refine ⟨_, rfl, r.b, _, rfl, .inr ⟨hb, ?_⟩⟩
          refine ⟨_, rfl, _, rfl, d, _, rfl, .inl ⟨_, Sum.inr r.name, h4, rfl, kl, rfl⟩, ?_⟩
          refine ⟨us ++ [r.b], _, _, _, rfl, by rw [List.length_append, lu]; rfl, by rw [upd_same, pk r.b], ?_, s5.mut d0⟩
          rw [tk1]
          exact paired_snoc (bo4.put h4) (SqT_put h4 hb)
      · rintro σ H1 ⟨us, vl, vn, vb, rfl, lu, h1, bo, s1⟩
        rw [List.length_map, ln, List.take_of_length_le (Nat.le_refl _)] at h1 bo
        have lu : us.length = rs.length := by rw [lu, List.length_map, ln]
        refine ⟨_, rfl, _, .inr (.inr ⟨_, h1, rfl⟩), ?_⟩
        have em : (kvsOf rs us).isEmpty = false := by
          cases hk : kvsOf rs us with
          | nil =>
            have q := kvsOf_len lu
            rw [hk] at q
            exact absurd (List.length_eq_zero_iff.mp q.symm) ne
          | cons _ _ => rfl
        rw [em]
        refine iteF ?_
        exact ⟨_, rfl, k d us H1 h1 bo s1⟩
    · refine .inr ⟨s0.tup ha, ?_⟩
      refine for_it walk_enumST (fun i σ H' => ∃ (us : List Addr) (vl vn vb : Option V), σ = [some (.ref a), some (.ref d), vl, vn, vb] ∧ us.length = i ∧ H' d = some (.dK (kvsOf (rs.take i) us)) ∧ BoA K H' us (rs.take i) ∧ Same H H') ⟨[], none, none, none, rfl, rfl, upd_same, .nil, s0⟩ (fun i σ H' _ q => q.choose_spec.choose_spec.choose_spec.choose_spec.2.2.2.2.tup ha) ?_ ?_
      · rintro i x σ H1 H2 hi ⟨us, vl, vn, vb, rfl, lu, h1, bo, s1⟩ ⟨T, x1, y, rfl, hT, rfl, e1, e2⟩
        obtain rfl : x1 = .int (1 + (i : Nat)) := (Option.some.inj e1).symm
        have e2 : (ps.map V.ref)[i]? = some y := e2
        rw [List.getElem?_map] at e2
        obtain ⟨p, hp, rfl⟩ := Option.map_eq_some_iff.mp e2
        obtain ⟨r, hr2, pa⟩ := paired_get pr hp
        have rm : r ∈ rs := List.mem_of_getElem? hr2
        obtain ⟨nm, bb, ls⟩ := ri r rm
        have ir : i < rs.length := by rw [← ln]; simpa using hi
        have s2 := s1.trans (Same.new (o := .tup [.int (1 + (i : Nat)), .ref p]) hT)
        have p2 := pa.same s2
        have h2 := (Same.new (o := .tup [.int (1 + (i : Nat)), .ref p]) hT) _ _ h1
        have bo2 := bo.same (Same.new (o := .tup [.int (1 + (i : Nat)), .ref p]) hT)
        have lt : us.length = (rs.take i).length := by rw [lu, List.length_take]; omega
        refine ⟨T, _, rfl, .of upd_same, rfl, _, _, rfl, _, _, rfl, p, _, rfl, p2.1, rfl, _, _, rfl, _, _, rfl, rfl, rfl, ?_⟩
        refine ⟨_, rfl, _, _, rfl, rfl, _, rfl, ite2 (fun q => by have := of_decide_eq_true q; omega) fun _ => ?_⟩
        refine ⟨_, rfl, r.name, rfl, Nat.le_trans nm.len (by decide), fun H3 s3 => ⟨_, rfl, ?_⟩⟩
        show if (!nameB r.name) = true then _ else _
        rw [(nameB_iff _).mpr nm]
        refine iteF ?_
        have an : (kvsOf (rs.take i) us).any (fun kv => decide (kv.1 = Sum.inr r.name)) = false := by
          rw [kvsOf_any lt, decide_eq_false (fresh_name nd hr2)]
        refine ⟨_, rfl, _, rfl, d, none, rfl, .inl ⟨_, Sum.inr r.name, .inl (s3 _ _ h2), rfl, (no_val an).symm⟩, _, rfl, iteF ?_⟩
        have p3 := p2.same s3
        refine ⟨_, rfl, r.b, r.ts, r.ss, rfl, p3.2.1, p3.2.2, ls, fun H4 s4 => ⟨_, rfl, ?_⟩⟩
        show if (!bodyB r.ss) = true then _ else _
        rw [bb]
        refine iteF ?_
        have h4 := s4 _ _ (s3 _ _ h2)
        have bo4 := (bo2.same s3).same s4
        have p4 := p3.same s4
        have s5 := (s2.trans s3).trans s4
        have tk1 : rs.take (i + 1) = rs.take i ++ [r] := by rw [List.take_add_one, hr2]; rfl
        have kl : (kvsOf (rs.take i) us).length < sizeLine := by
          rw [kvsOf_len lt, List.length_take]
          exact Nat.lt_of_lt_of_le (by omega : _ < 17) (by decide)
        have pk : ∀ u : Addr, putK (kvsOf (rs.take i) us) (Sum.inr r.name) (V.ref u) = kvsOf (rs.take (i + 1)) (us ++ [u]) := fun u => by
          unfold putK
          rw [an, tk1, kvsOf_snoc r u lt]; rfl
        have d0 : H d = none := hd
        rcases p4.2.1 with hb | hb
        · refine ⟨_, rfl, r.b, _, rfl, .inl ⟨hb, fun u hu => ?_⟩⟩
          have h5 := (Same.new (o := .tup (r.ts.map V.ref)) hu) _ _ h4
          have bo5 := bo4.same (Same.new (o := .tup (r.ts.map V.ref)) hu)
          refine ⟨_, rfl, _, rfl, d, _, rfl, .inl ⟨_, Sum.inr r.name, h5, rfl, kl, rfl⟩, ?_⟩
          refine ⟨us ++ [u], _, _, _, rfl, by rw [List.length_append, lu]; rfl, by rw [upd_same, pk u], ?_, (s5.trans (Same.new hu)).mut d0⟩
          rw [tk1]
          exact paired_snoc (bo5.put h5) (SqT_put h5 (.of upd_same))
        · refine ⟨_, rfl, r.b, _, rfl, .inr ⟨hb, ?_⟩⟩
          refine ⟨_, rfl, _, rfl, d, _, rfl, .inl ⟨_, Sum.inr r.name, h4, rfl, kl, rfl⟩, ?_⟩
          refine ⟨us ++ [r.b], _, _, _, rfl, by rw [List.length_append, lu]; rfl, by rw [upd_same, pk r.b], ?_, s5.mut d0⟩
          rw [tk1]
          exact paired_snoc (bo4.put h4) (SqT_put h4 hb)
      · rintro σ H1 ⟨us, vl, vn, vb, rfl, lu, h1, bo, s1⟩
        rw [List.length_map, ln, List.take_of_length_le (Nat.le_refl _)] at h1 bo
        have lu : us.length = rs.length := by rw [lu, List.length_map, ln]
        refine ⟨_, rfl, _, .inr (.inr ⟨_, h1, rfl⟩), ?_⟩
        have em : (kvsOf rs us).isEmpty = false := by
          cases hk : kvsOf rs us with
          | nil =>
            have q := kvsOf_len lu
            rw [hk] at q
            exact absurd (List.length_eq_zero_iff.mp q.symm) ne
          | cons _ _ => rfl
        rw [em]
        refine iteF ?_
        exact ⟨_, rfl, k d us H1 h1 bo s1⟩
end
end Mf
namespace Mf
open PySem L2
section
variable {P : Program} {w : World} {K : PySem.W.Frag} {mg : Str → Option Value} {base : Heap}

/-! ### _check_callees, of bodies that are right -/
def calling : List Str := ["call", "try"]
def Called (rs : List Pr) : Prop := ∀ r ∈ rs, ∀ s ∈ r.ss, s.1 ∈ calling → s.2 ∈ rs.map Pr.name
def spCallees (K : PySem.W.Frag) : Sp := fun vs H Q _ => ∃ (d : Addr) (us : List Addr) (rs : List Pr), vs = [.ref d] ∧ H d = some (.dK (kvsOf rs us)) ∧ BoA K H us rs ∧ (∀ r ∈ rs, StA H r.ts r.ss) ∧ Called rs ∧ ∀ H', Same H H' → Q .non H'
theorem kvsOf_get : ∀ {rs : List Pr} {us : List Addr} {i : Nat} {k : Key} {x : V}, (kvsOf rs us)[i]? = some (k, x) → ∃ r u, rs[i]? = some r ∧ us[i]? = some u ∧ k = Sum.inr r.name ∧ x = .ref u
  | r :: rs, u :: us, 0, k, x, h => by
    cases h
    exact ⟨r, u, rfl, rfl, rfl, rfl⟩
  | r :: rs, u :: us, i + 1, k, x, h => kvsOf_get (rs := rs) (us := us) (i := i) h
  | [], us, i, k, x, h => by simp [kvsOf] at h
  | r :: rs, [], i, k, x, h => by simp [kvsOf] at h
theorem some_val {kvs : List (Key × V)} {k : Key} (h : kvs.any (fun kv => decide (kv.1 = k)) = true) : ∃ v, valV kvs k = some v := by
  obtain ⟨x, hx, hk⟩ := List.any_eq_true.mp h
  unfold valV
  cases e : kvs.find? fun kv => decide (kv.1 = k) with
  | none => exact absurd hk (List.find?_eq_none.mp e x hx)
  | some y => exact ⟨y.2, rfl⟩
abbrev sCheck_callees : Stmt := top 29
theorem scCheck_callees : FnScope ["bodies", "line", "body", "kind", "name"] ["bodies"] (defScope sCheck_callees) := ⟨rfl, rfl, rfl, by decide +kernel, rfl, by decide +kernel, by decide +kernel⟩
theorem ok_callees {f aC : Addr} {fd : FuncData} (F : Fun K "_check_callees" "_check_callees" sCheck_callees f fd) (mEnum : mg "enumerate" = none) (mg_CALLING_KINDS : mg "CALLING_KINDS" = some (.ref aC)) (qC : ∀ H, SqT K H aC (calling.map V.str)) : FnOk P w K mg base CX0 1 f fd ["bodies"] (spCallees K) := by
  refine F.ok scCheck_callees (fun vs H Q E h => ?_) (fun cdv A outer s H vs Q E hr h => ?_)
  · obtain ⟨d, us, rs, rfl, _⟩ := h
    rfl
  · obtain ⟨d, us, rs, rfl, hd, bo, st, ca, k⟩ := h
    have hu : (A.deeper (PyProof.Rows.envOfC "_check_callees" (defScope sCheck_callees) s.heap.objs.size f cdv)).units + 1 < cLine := by have := hr.units; omega
    refine ⟨_, (pss_one (ps_lock (ps_for PassesOwn.never rfl (pi_enumV (by rfl) mEnum (pv 0) (by decide) (by decide)) (pg_tup rfl (pgs_cons (pg_name (i := 1) scCheck_callees.nd rfl (by first | exact Or.inl rfl | exact Or.inr rfl)) (pgs_cons (pg_name (i := 2) scCheck_callees.nd rfl (by first | exact Or.inl rfl | exact Or.inr rfl)) pgs_nil)))
        (pss_one (ps_for PassesOwn.never rfl (pi_tup (pv 2)) (pg_tup rfl (pgs_cons (pg_name (i := 3) scCheck_callees.nd rfl (by first | exact Or.inl rfl | exact Or.inr rfl)) (pgs_cons (pg_name (i := 4) scCheck_callees.nd rfl (by first | exact Or.inl rfl | exact Or.inr rfl)) pgs_nil)))
          (pss_one (ps_if (PW.pt (pw_and (pt_cmpR (oin K) (pv 3) (pe_glob (v := .ref _) rfl mg_CALLING_KINDS rfl) (by rfl)) (pw_and1 (pt_cmp (pc_dnotin hu (pv 4) (pv 0))))))
            (pss_one ps_never) pss_nil))))))), ?_⟩
    refine ⟨d, _, hd, trivial, fun od => ?_⟩
    have lt : us.length = rs.length := Paired.length bo
    have bf : BoA K (upd H d (.frz od (.dK (kvsOf rs us)))) us rs := bo.put hd
    refine ⟨_, rfl, d, od, _, rfl, upd_same, ?_⟩
    refine for_it walk_enumV (fun i σ H' => ∃ (v1 v2 v3 v4 : Option V), σ = [some (.ref d), v1, v2, v3, v4] ∧ Same (upd H d (.frz od (.dK (kvsOf rs us)))) H') ⟨none, none, none, none, rfl, Same.refl _⟩ (fun i σ H' _ q => q.choose_spec.choose_spec.choose_spec.choose_spec.2 _ _ upd_same) ?_ ?_
    · rintro i x σ H1 H2 hi ⟨v1, v2, v3, v4, rfl, s1⟩ ⟨T, y, ky, rfl, hT, rfl, hx⟩
      obtain ⟨r, u, hr1, hu1, rfl, rfl⟩ := kvsOf_get hx
      obtain ⟨r', hr2, sq⟩ := paired_get bf hu1
      rw [hr1] at hr2
      cases hr2
      have rm : r ∈ rs := List.mem_of_getElem? hr1
      have s2 := s1.trans (Same.new (o := .tup [.int (1 + (i : Nat)), .ref u]) hT)
      refine ⟨T, _, rfl, .of upd_same, rfl, _, _, rfl, _, _, rfl, rfl, ?_⟩
      refine ⟨_, rfl, u, rfl, ⟨_, s2.tup sq⟩, ?_⟩
      refine for_it walk_tup (fun j σ H' => ∃ (v3 v4 : Option V), σ = [some (.ref d), some (.int (1 + (i : Nat))), some (.ref u), v3, v4] ∧ Same (upd H d (.frz od (.dK (kvsOf rs us)))) H') ⟨v3, v4, rfl, s2⟩ (fun j σ H' _ q => q.choose_spec.choose_spec.2.tup sq) ?_ ?_
      · rintro j x σ H3 H4 hj ⟨w3, w4, rfl, s3⟩ ⟨rfl, hx⟩
        rw [List.getElem?_map] at hx
        obtain ⟨t, ht, rfl⟩ := Option.map_eq_some_iff.mp hx
        obtain ⟨sp, hsp, hts⟩ := (st r rm).get ht
        have hts : (upd H d (.frz od (.dK (kvsOf rs us)))) t = some (.tup [.str sp.1, .str sp.2]) := by
          rw [upd_ne (fun e => by rw [e, hd] at hts; simp at hts)]; exact hts
        refine ⟨t, _, rfl, .of (s3 _ _ hts), rfl, _, _, rfl, _, _, rfl, rfl, ?_⟩
        refine ⟨_, rfl, aC, _, rfl, .inr (qC _), rfl, flat_strs calling, _, rfl, ?_⟩
        show if inV (.str sp.1) (calling.map V.str) = true then _ else _
        rw [inV_str]
        refine ite2 (fun q => ?_) fun q => ?_
        · have mm := ca r rm sp (StA.mem hsp) (of_decide_eq_true q)
          obtain ⟨v, hv⟩ := some_val (kvs := kvsOf rs us) (k := Sum.inr sp.2) (by rw [kvsOf_any lt]; exact decide_eq_true mm)
          refine ⟨_, rfl, _, rfl, d, some v, rfl, .inl ⟨_, Sum.inr sp.2, .inr ⟨od, s3 _ _ upd_same⟩, rfl, hv.symm⟩, _, rfl, iteF ?_⟩
          exact ⟨_, _, rfl, s3⟩
        · exact ⟨_, _, rfl, s3⟩
      · rintro σ H3 ⟨w3, w4, rfl, s3⟩
        exact ⟨_, _, w3, w4, rfl, s3⟩
    · rintro σ H1 ⟨v1, v2, v3, v4, rfl, s1⟩
      refine ⟨s1 _ _ upd_same, k _ fun b o hb => ?_⟩
      by_cases e : b = d
      · subst e
        rw [hd] at hb
        cases hb
        exact upd_same
      · rw [upd_ne e]
        refine s1 _ _ ?_
        rw [upd_ne e]; exact hb
end
end Mf
namespace Mf
open PySem L2
/-! ### the class NameSet -/
def flM (t : Addr) : List (Str × V) := putF "members" (.ref t) []
theorem flM_get (t : Addr) : (flM t).lookup ("members" : Str) = some (.ref t) := by
  unfold flM
  rw [lookup_putF, if_pos rfl]
/-- a NameSet stands at p, its members ms -/
def NSet (C : Addr) (H : Hp) (p : Addr) (ms : List Str) : Prop := ∃ dx t, H p = some (.ins C dx (flM t)) ∧ H t = some (.tup (ms.map V.str)) ∧ Up ms ∧ ms.length < 4000 ∧ ∀ z ∈ ms, PyData.strOk z = true
theorem NSet.same {C : Addr} {H H' : Hp} {p : Addr} {ms : List Str} (h : NSet C H p ms) (s : Same H H') : NSet C H' p ms := let ⟨dx, t, a, b, c⟩ := h; ⟨dx, t, s _ _ a, s _ _ b, c⟩
theorem NSet.kp {C a : Addr} {H H' : Hp} {p : Addr} {ms : List Str} {n : Nat} (h : NSet C H p ms) (s : Kp a H H') (S : Src H a n) : NSet C H' p ms :=
  let ⟨dx, t, x, y, c⟩ := h
  let ⟨_, _, _, e, _⟩ := S
  ⟨dx, t, s _ _ (ne_of x e (by intro z; cases z)) x, s _ _ (ne_of y e (by intro z; cases z)) y, c⟩
structure NsC (K : PySem.W.Frag) (mg : Str → Option Value) (C : Addr) : Prop where
  ins : C8.InsC K C
  nM : NoAttr K C "members"
  mgC : mg "NameSet" = some (.ref C)
  kL : PySem.W.kitOne K (.type "list") (.ref C) = some false
  kT : PySem.W.kitOne K (.type "tuple") (.ref C) = some false
  bT : PySem.W.notFirst K C (.type "tuple") = true
  bL : PySem.W.notFirst K C (.type "list") = true
  mIsi : mg "isinstance" = none
  mTuple : mg "tuple" = none
  mSorted : mg "sorted" = none
  mSet : mg "set" = none
  mAll : mg "all" = none
  mLen : mg "len" = none
/-- what NameSet(..) takes -/
inductive ArgS (K : PySem.W.Frag) (C : Addr) (H : Hp) : V → List Str → Prop
  | lst {a : Addr} {xs : List Str} (e : H a = some (.lst (xs.map V.str))) : ArgS K C H (.ref a) xs
  | tup {a : Addr} {xs : List Str} (e : H a = some (.tup (xs.map V.str))) : ArgS K C H (.ref a) xs
  | emp {a : Addr} {o : Obj} (e : K.lookup a = some o) (c : o.cls = .type "tuple") (s : ∀ H, SqT K H a []) : ArgS K C H (.ref a) []
  | own {a : Addr} {xs : List Str} (e : NSet C H a xs) : ArgS K C H (.ref a) xs
section
variable {P : Program} {w : World} {K : PySem.W.Frag} {mg : Str → Option Value} {base : Heap} {C : Addr}
theorem NsC.isi {H : Hp} {p : Addr} {dx : Addr} {fs : List (Str × V)} (T : NsC K mg C) (h : H p = some (.ins C dx fs)) : TyX K H (.ref p) (.ref C) := .base (.ins h T.ins.cl T.ins.ha T.ins.hn T.ins.htk T.ins.hm)

def spNsInit (K : PySem.W.Frag) (C : Addr) : Sp := fun vs H Q _ => ∃ (p dx : Addr) (x : V) (xs : List Str), vs = [.ref p, x] ∧ H p = some (.ins C dx []) ∧ ArgS K C H x xs ∧ xs.length < 4000 ∧
  ∀ t ms H', Up ms → (∀ z, z ∈ ms ↔ z ∈ xs) → H' p = some (.ins C dx (flM t)) → H' t = some (.tup (ms.map V.str)) → (∀ b o, b ≠ p → H b = some o → H' b = some o) → Q .non H'
abbrev sNameSetInit : Stmt := inClass (top 10) 0
theorem scNameSetInit : FnScope ["self", "names"] ["self", "names"] (defScope sNameSetInit) := ⟨rfl, rfl, rfl, by decide +kernel, rfl, by decide +kernel, by decide +kernel⟩
theorem ok_nsInit {f : Addr} {fd : FuncData} {dvs : List V} {kws : List (Str × V)} {ar : Arguments} (F : FunD K "__init__" "NameSet.__init__" ar (defBody sNameSetInit) (defScope sNameSetInit) dvs kws f fd) (T : NsC K mg C) : FnOk P w K mg base CX0 1 f fd ["self", "names"] (spNsInit K C) := by
  refine F.ok scNameSetInit (fun vs H Q E h => ?_) (fun cdv A outer s H vs Q E hr h => ?_)
  · obtain ⟨p, dx, x, xs, rfl, _⟩ := h
    rfl
  · obtain ⟨p, dx, x, xs, rfl, hp, ax, few, k⟩ := h
    have mIsi := T.mIsi; have mg_NameSet := T.mgC; have mTuple := T.mTuple; have mSorted := T.mSorted; have mSet := T.mSet
    refine ⟨_, (C8.pss_cut (ps_if (pt_val (pe_callB (k_isi K) (by rfl) mIsi (by decide +kernel) (pa_cons (pv 1) (pa_cons (pe_glob (v := .ref _) rfl mg_NameSet rfl) pa_nil))))
        (pss_one (ps_set (i := 1) scNameSetInit.nd rfl (by first | exact Or.inl rfl | exact Or.inr rfl) (fldK K (pv 1)))) pss_nil)
      (pss_one (ps_fld (pv 0) (pe_callTy (k_tuple K) (by rfl) mTuple (by decide +kernel) (pa_cons (pe_callB (cr_sortedX rfl) (by rfl) mSorted (by decide +kernel) (pa_cons (pe_callTy (cr_setS rfl) (by rfl) mSet (by decide +kernel) (pa_cons (pv 1) pa_nil)) pa_nil)) pa_nil)) rfl))), ?_⟩
    refine ⟨fun σ' H' => H' = H ∧ ∃ c, σ' = [some (.ref p), some (.ref c)] ∧ (SqL K H c (xs.map V.str) ∨ SqT K H c (xs.map V.str)), ?_, ?_⟩
    · cases ax with
      | lst e => exact ⟨_, rfl, _, _, _, _, false, rfl, .own C, .base (.lst e), T.kL, _, rfl, iteF ⟨rfl, _, rfl, .inl (.of e)⟩⟩
      | tup e => exact ⟨_, rfl, _, _, _, _, false, rfl, .own C, .base (.tup e), T.kT, _, rfl, iteF ⟨rfl, _, rfl, .inr (.of e)⟩⟩
      | emp e c s => exact ⟨_, rfl, _, _, _, _, false, rfl, .own C, .kTuple e c, T.kT, _, rfl, iteF ⟨rfl, _, rfl, .inr (s H)⟩⟩
      | own e =>
        obtain ⟨dy, t, h1, h2, _⟩ := e
        exact ⟨_, rfl, _, _, _, _, true, rfl, .own C, T.isi h1, T.ins.me, _, rfl, iteT ⟨_, rfl, _, C, dy, _, _, rfl, h1, T.ins.cl, T.nM, flM_get t, rfl, t, rfl, .inr (.of h2)⟩⟩
    · rintro σ' H' ⟨rfl, c, rfl, hc⟩
      refine ⟨_, rfl, c, xs, rfl, hc, few, fun q l nq nd m => ?_⟩
      refine ⟨q, l, rfl, upd_same, fun ys r so m2 len nr => ?_⟩
      refine ⟨r, _, rfl, .inl ⟨.of upd_same, fun t nt => ?_⟩⟩
      have up : Up ys := up_of so (nodup_len nd (fun z hz => (m2 z).mpr hz) len)
      have h1 : Same H' (upd (upd (upd H' q (.ext fun h => TxR P w h q l)) r (.lst (ys.map V.str))) t (.tup (ys.map V.str))) := ((Same.new nq).trans (Same.new nr)).trans (Same.new nt)
      have ht : t ≠ p := ne_none nt ((Same.new nr) _ _ ((Same.new nq) _ _ hp))
      refine ⟨_, rfl, p, C, dx, [], rfl, h1 _ _ hp, T.ins.cl, T.nM, (by show 0 < 1000; decide), ?_⟩
      refine k t ys _ up (fun z => (m2 z).trans (m z)) upd_same (by rw [upd_ne ht, upd_same]) fun b o nb e => ?_
      rw [upd_ne nb]
      exact h1 _ _ e
theorem ArgS.same {H H' : Hp} {x : V} {xs : List Str} (h : ArgS K C H x xs) (s : Same H H') : ArgS K C H' x xs := by
  cases h with
  | lst e => exact .lst (s _ _ e)
  | tup e => exact .tup (s _ _ e)
  | emp e c q => exact .emp e c q
  | own e => exact .own (e.same s)
/-- NameSet(x): a new one -/
theorem make_ns {H : Hp} {x : V} {xs : List Str} {Q : VK} {E : XK} (ax : ArgS K C H x xs) (few : xs.length < 4000) (ok : ∀ z ∈ xs, PyData.strOk z = true)
    (k : ∀ p ms H', NSet C H' p ms → (∀ z, z ∈ ms ↔ z ∈ xs) → H p = none → Same H H' → Q (.ref p) H') :
    ∀ p dx, H p = none → H dx = none → dx ≠ p → spNsInit K C [.ref p, x] (upd (upd H dx (.own p)) p (.ins C dx [])) (fun v H2 => v = .non ∧ Q (.ref p) H2) E := by
  intro p dx hp hd ne
  have s1 : Same H (upd (upd H dx (.own p)) p (.ins C dx [])) := Same.mut (Same.new hd) hp
  refine ⟨p, dx, x, xs, rfl, upd_same, ax.same s1, few, fun t ms H' up m h1 h2 kp => ⟨rfl, k p ms H' ⟨dx, t, h1, h2, up, ?_, fun z hz => ok z ((m z).mp hz)⟩ m hp fun b o e => kp b o (ne_of_none e hp) (s1 _ _ e)⟩⟩
  exact Nat.lt_of_le_of_lt (nodup_le up.nd fun z hz => (m z).mp hz) few
theorem ns_grow {H : Hp} {p dx : Addr} (hp : H p = none) (hd : H dx = none) : Same H (upd (upd H dx (.own p)) p (.ins C dx [])) := Same.mut (Same.new hd) hp
theorem ns_after {H H' : Hp} {p dx t : Addr} {xs ms : List Str} (few : xs.length < 4000) (ok : ∀ z ∈ xs, PyData.strOk z = true) (hp : H p = none) (hd : H dx = none) (up : Up ms) (m : ∀ z, z ∈ ms ↔ z ∈ xs)
    (h1 : H' p = some (.ins C dx (flM t))) (h2 : H' t = some (.tup (ms.map V.str))) (kp : ∀ b o, b ≠ p → (upd (upd H dx (.own p)) p (.ins C dx [])) b = some o → H' b = some o) : NSet C H' p ms ∧ Same H H' :=
  ⟨⟨dx, t, h1, h2, up, Nat.lt_of_le_of_lt (nodup_le up.nd fun z hz => (m z).mp hz) few, fun z hz => ok z ((m z).mp hz)⟩, fun b o e => kp b o (ne_of_none e hp) ((ns_grow hp hd) b o e)⟩
end
end Mf
/-! Any walk; data of steps and procedures compared; lists of a heap that keep their kind. -/
namespace Mf
open PySem L2
theorem it_any {J : It} {n : Nat} {G : Hp → Prop} {Y : Nat → Hp → V → Hp → Prop} (w : Walk J n G Y) {B : (Hp → Prop) → V → Hp → Prop} {Qd : Hp → Prop} {H1 : Hp} (Pv : Nat → Hp → Prop) (h0 : Pv 0 H1) (hG : ∀ i H, i ≤ n → Pv i H → G H)
    (hs : ∀ i x H H', i < n → Pv i H → Y i H x H' → B (Pv (i + 1)) x H') (hd : ∀ H, Pv n H → Qd H) :
    ∃ W : Nat → Nat → Hp → Prop, (∃ m, W 0 m H1) ∧ ∀ i m H, W i m H → (J.stop i H ∧ Qd H) ∨ (J.go i H ∧ ∃ Nx : Hp → Prop, (∀ H', Nx H' → ∃ m', m' < m ∧ W (i + 1) m' H') ∧ ∀ x H', J.yld i H x H' → B Nx x H') := by
  refine ⟨fun i m H => m = n - i ∧ i ≤ n ∧ Pv i H, ⟨n, by simp, Nat.zero_le _, h0⟩, ?_⟩
  rintro i m H ⟨rfl, hi, p⟩
  have q := hG i H hi p
  by_cases hlt : i < n
  · exact .inr ⟨w.goes i H hlt q, Pv (i + 1), fun H' p' => ⟨n - (i + 1), by omega, rfl, hlt, p'⟩, fun x H' y => hs i x H H' hlt p (w.yields i H x H' hlt q y)⟩
  · have e : i = n := by omega
    subst e
    exact .inl ⟨w.stops H q, hd H p⟩
section
variable (K : PySem.W.Frag) {X : Cx}
theorem piL {tg l : Expr} {tl : TE} (hl : PE X l tl) (h : X.K = K := by rfl) : PI X tg l (iList K tl) := h ▸ pi_list hl
theorem piT {tg l : Expr} {tl : TE} (hl : PE X l tl) (h : X.K = K := by rfl) : PI X tg l (iTup K tl) := h ▸ pi_tup hl
end

/-! ### data -/
theorem eqvMap {α : Type} [DecidableEq α] {f : α → PyData} (h : ∀ x y, PyData.eqv (f x) (f y) = decide (x = y)) : ∀ xs ys : List α, PyData.eqvAll (xs.map f) (ys.map f) = decide (xs = ys)
  | [], [] => rfl
  | [], _ :: _ => rfl
  | _ :: _, [] => rfl
  | x :: xs, y :: ys => by
    show (PyData.eqv (f x) (f y) && PyData.eqvAll (xs.map f) (ys.map f)) = _
    rw [h, eqvMap h xs ys]
    by_cases e : x = y <;> simp [e]
/-- data that can be laid, of depth at most k -/
def Sh (k : Nat) (d : PyData) : Prop := d.canLay0 = true ∧ PyData.depth d ≤ k
theorem Sh.up {k m : Nat} {d : PyData} (h : Sh k d) (l : k ≤ m) : Sh m d := ⟨h.1, Nat.le_trans h.2 l⟩
theorem Sh.all {k : Nat} : ∀ {ds : List PyData}, (∀ d ∈ ds, Sh k d) → PyData.canLayAll0 ds = true ∧ PyData.depthAll ds ≤ k
  | [], _ => ⟨rfl, Nat.zero_le _⟩
  | d :: ds, h => by
    obtain ⟨a, b⟩ := Sh.all (ds := ds) fun y hy => h y (List.mem_cons_of_mem _ hy)
    obtain ⟨a', b'⟩ := h d List.mem_cons_self
    refine ⟨?_, ?_⟩
    · show (d.canLay0 && PyData.canLayAll0 ds) = true
      rw [a, a']; rfl
    · show max (PyData.depth d) (PyData.depthAll ds) ≤ k
      omega
theorem Sh.list {k : Nat} {ds : List PyData} (h : ∀ d ∈ ds, Sh k d) : Sh (k + 1) (.list ds) := ⟨(Sh.all h).1, Nat.succ_le_succ (Sh.all h).2⟩
theorem Sh.tuple {k : Nat} {ds : List PyData} (h : ∀ d ∈ ds, Sh k d) : Sh (k + 1) (.tuple ds) := ⟨(Sh.all h).1, Nat.succ_le_succ (Sh.all h).2⟩
theorem Sh.listM {α : Type} {k : Nat} {xs : List α} {f : α → PyData} (h : ∀ x ∈ xs, Sh k (f x)) : Sh (k + 1) (.list (xs.map f)) := .list fun d hd => by obtain ⟨x, hx, rfl⟩ := List.mem_map.mp hd; exact h x hx
theorem Sh.tupleM {α : Type} {k : Nat} {xs : List α} {f : α → PyData} (h : ∀ x ∈ xs, Sh k (f x)) : Sh (k + 1) (.tuple (xs.map f)) := .tuple fun d hd => by obtain ⟨x, hx, rfl⟩ := List.mem_map.mp hd; exact h x hx
theorem Sh.str {z : Str} (h : PyData.strOk z = true) : Sh 0 (.str z) := ⟨h, Nat.le_refl _⟩
theorem Sh.int (i : Int) : Sh 0 (.int i) := ⟨rfl, Nat.le_refl _⟩
theorem Sh.sh {k : Nat} {d : PyData} (h : Sh k d) (l : k ≤ 64 := by decide) : SeqAt.shaped d = true := Bool.and_eq_true_iff.mpr ⟨h.1, decide_eq_true (Nat.le_trans h.2 l)⟩
theorem dpMap {K : PySem.W.Frag} {H : Hp} {α : Type} {g : α → V} {f : α → PyData} : ∀ {xs : List α}, (∀ x ∈ xs, Dp K H (g x) (f x)) → DpAll K H (xs.map g) (xs.map f)
  | [], _ => .nil
  | x :: xs, h => .cons (h x List.mem_cons_self) (dpMap fun y hy => h y (List.mem_cons_of_mem _ hy))
theorem dpPair {K : PySem.W.Frag} {H : Hp} {α β : Type} {R : α → β → Prop} {g : α → V} {f : β → PyData} {as : List α} {bs : List β} (p : Paired R as bs) (h : ∀ a b, R a b → Dp K H (g a) (f b)) : DpAll K H (as.map g) (bs.map f) := by
  induction p with
  | nil => exact .nil
  | cons a _ ih => exact .cons (h _ _ a) ih
/-! ### steps and procedures as data -/
abbrev Step := Str × Str
abbrev Pc := Str × List Step
def stD (s : Step) : PyData := .tuple [.str s.1, .str s.2]
def bdL (ss : List Step) : PyData := .list (ss.map stD)
def bdT (ss : List Step) : PyData := .tuple (ss.map stD)
def pcL (x : Pc) : PyData := .tuple [.str x.1, bdL x.2]
theorem eqv_str (x y : Str) : PyData.eqv (.str x) (.str y) = decide (x = y) := by
  show (x == y) = _
  by_cases e : x = y <;> simp [e]
theorem eqv_st (x y : Step) : PyData.eqv (stD x) (stD y) = decide (x = y) := by
  obtain ⟨a, b⟩ := x
  obtain ⟨c, d⟩ := y
  show (PyData.eqv (.str a) (.str c) && (PyData.eqv (.str b) (.str d) && true)) = _
  rw [eqv_str, eqv_str]
  by_cases e : a = c <;> by_cases f : b = d <;> simp [e, f]
theorem eqv_bdL (x y : List Step) : PyData.eqv (bdL x) (bdL y) = decide (x = y) := eqvMap eqv_st x y
theorem eqv_bdT (x y : List Step) : PyData.eqv (bdT x) (bdT y) = decide (x = y) := eqvMap eqv_st x y
theorem eqv_pcL (x y : Pc) : PyData.eqv (pcL x) (pcL y) = decide (x = y) := by
  obtain ⟨a, b⟩ := x
  obtain ⟨c, d⟩ := y
  show (PyData.eqv (.str a) (.str c) && (PyData.eqv (bdL b) (bdL d) && true)) = _
  rw [eqv_str, eqv_bdL]
  by_cases e : a = c <;> by_cases f : b = d <;> simp [e, f]
def StOk (s : Step) : Prop := PyData.strOk s.1 = true ∧ PyData.strOk s.2 = true
theorem sh_st {s : Step} (h : StOk s) : Sh 1 (stD s) := .tuple fun d hd => by
  simp only [List.mem_cons, List.not_mem_nil, or_false] at hd
  rcases hd with rfl | rfl
  · exact .str h.1
  · exact .str h.2
theorem sh_bdL {ss : List Step} (h : ∀ s ∈ ss, StOk s) : Sh 2 (bdL ss) := .listM fun s hs => sh_st (h s hs)
theorem sh_bdT {ss : List Step} (h : ∀ s ∈ ss, StOk s) : Sh 2 (bdT ss) := .tupleM fun s hs => sh_st (h s hs)
theorem sh_pcL {x : Pc} (h : PyData.strOk x.1 = true) (h2 : ∀ s ∈ x.2, StOk s) : Sh 3 (pcL x) := .tuple fun d hd => by
  simp only [List.mem_cons, List.not_mem_nil, or_false] at hd
  rcases hd with rfl | rfl
  · exact (Sh.str h).up (by decide)
  · exact sh_bdL h2

/-! ### all but lists stays -/
def NoL (o : HO) : Prop := ∀ xs, o ≠ .lst xs
def SameN (H H' : Hp) : Prop := ∀ b o, NoL o → H b = some o → H' b = some o
theorem SameN.refl {H : Hp} : SameN H H := fun _ _ _ h => h
theorem SameN.of {H H' : Hp} (x : Same H H') : SameN H H' := fun b o _ h => x b o h
theorem SameN.trans {H H1 H2 : Hp} (x : SameN H H1) (y : SameN H1 H2) : SameN H H2 := fun b o n h => y b o n (x b o n h)
theorem SameN.put {H H1 : Hp} {p : Addr} {xs : List V} {o : HO} (x : SameN H H1) (h : H1 p = some (.lst xs)) : SameN H (upd H1 p o) := fun b u n e => by
  have q := x b u n e
  rw [upd_ne (fun z => by rw [z, h] at q; exact n xs (Option.some.inj q).symm)]
  exact q
theorem noL_tup {xs : List V} : NoL (.tup xs) := fun _ h => nomatch h
theorem noL_dK {k : List (Key × V)} : NoL (.dK k) := fun _ h => nomatch h
theorem noL_ins {C d : Addr} {f : List (Str × V)} : NoL (.ins C d f) := fun _ h => nomatch h
theorem SameN.tup {K : PySem.W.Frag} {t : Addr} {H H' : Hp} {xs : List V} (x : SameN H H') (h : SqT K H t xs) : SqT K H' t xs := by
  rcases h with (h | ⟨o, h⟩) | h
  · exact .inl (.inl (x _ _ noL_tup h))
  · exact .inl (.inr ⟨o, x _ _ (fun _ h => nomatch h) h⟩)
  · exact .inr h
/-- all but a, and but lists, stays -/
theorem refs_ne {H : Hp} {a x : Addr} {n : Nat} {ts : List Addr} (S : Src H a n) (h : H x = some (.lst (ts.map V.ref))) : x ≠ a := fun e => by
  obtain ⟨g, s, c, q, _⟩ := S
  rw [e, q] at h
  cases ts with
  | nil => simp at h
  | cons t ts => simp at h
theorem strs_ne {H : Hp} {a x : Addr} {n : Nat} {zs : List Str} (S : Src H a n) (h : H x = some (.lst (zs.map V.str))) : x ≠ a := fun e => by
  obtain ⟨g, s, c, q, _⟩ := S
  rw [e, q] at h
  cases zs with
  | nil => simp at h
  | cons t ts => simp at h
theorem noL_ne {H : Hp} {a x : Addr} {n : Nat} {o : HO} (S : Src H a n) (k : NoL o) (h : H x = some o) : x ≠ a := fun e => by
  obtain ⟨g, s, c, q, _⟩ := S
  rw [e, q] at h
  exact k _ (Option.some.inj h).symm
theorem Kp.noL {H H' : Hp} {a : Addr} {n : Nat} (x : Kp a H H') (S : Src H a n) : SameN H H' := fun b o k h => x b o (noL_ne S k h) h
end Mf
namespace Mf
open PySem L2
section
variable {P : Program} {w : World} {K : PySem.W.Frag} {mg : Str → Option Value} {base : Heap} {C : Addr}
/-! ### _places -/
abbrev CalN (P : Program) (w : World) (K : PySem.W.Frag) (mg : Str → Option Value) (base : Heap) (C : Addr) (dvs : List V) : Prop := CalC P w K mg base CX0 1 "NameSet" C ["self", "names"] (spNsInit K C) dvs
/-- the places that steps read, in order, as often as they are read -/
def readsIn (ss : List Step) : List Str := (ss.filter fun s => decide (s.1 = ("read" : Str))).map (·.2)
def readsOf (rs : List Pr) : List Str := (rs.map fun r => readsIn r.ss).flatten
theorem readsOf_snoc {rs : List Pr} {r : Pr} : readsOf (rs ++ [r]) = readsOf rs ++ readsIn r.ss := by unfold readsOf; simp
theorem readsIn_snoc {ss : List Step} {s : Step} : readsIn (ss ++ [s]) = readsIn ss ++ (if s.1 = ("read" : Str) then [s.2] else []) := by
  unfold readsIn
  by_cases e : s.1 = ("read" : Str) <;> simp [List.filter_append, e]
theorem readsIn_len (ss : List Step) : (readsIn ss).length ≤ ss.length := by
  unfold readsIn
  rw [List.length_map]
  exact List.length_filter_le _ _
theorem readsOf_len {rs : List Pr} (h : ∀ r ∈ rs, r.ss.length ≤ 12) : (readsOf rs).length ≤ rs.length * 12 := by
  induction rs with
  | nil => exact Nat.zero_le _
  | cons r rs ih =>
    have a := ih fun x hx => h x (List.mem_cons_of_mem _ hx)
    have b := h r List.mem_cons_self
    have c := readsIn_len r.ss
    show (readsIn r.ss ++ readsOf rs).length ≤ _
    rw [List.length_append, List.length_cons]
    omega
theorem bodyB_len {ss : List Step} (h : bodyB ss = true) : ss.length ≤ 12 := of_decide_eq_true (Bool.and_eq_true_iff.mp h).1
theorem bodyB_st {ss : List Step} (h : bodyB ss = true) : ∀ s ∈ ss, stepB s.1 s.2 = true := List.all_eq_true.mp (Bool.and_eq_true_iff.mp h).2
theorem stepB_name {s : Step} (h : stepB s.1 s.2 = true) : IsName s.2 := (nameB_iff _).mp (Bool.and_eq_true_iff.mp h).2
theorem stepB_kind {s : Step} (h : stepB s.1 s.2 = true) : s.1 ∈ kinds := of_decide_eq_true (Bool.and_eq_true_iff.mp h).1
theorem kinds_ok : ∀ z ∈ kinds, PyData.strOk z = true := by decide +kernel
theorem stepB_ok {s : Step} (h : stepB s.1 s.2 = true) : StOk s := ⟨kinds_ok _ (stepB_kind h), (stepB_name h).ok⟩
theorem readsOf_ok {rs : List Pr} (h : ∀ r ∈ rs, Right r) : ∀ z ∈ readsOf rs, IsName z := fun z hz => by
  obtain ⟨l, hl, hz⟩ := List.mem_flatten.mp hz
  obtain ⟨r, hr, rfl⟩ := List.mem_map.mp hl
  obtain ⟨s, hs, rfl⟩ := List.mem_map.mp hz
  exact stepB_name (bodyB_st (h r hr).2.1 s (List.mem_filter.mp hs).1)
def spPlaces (K : PySem.W.Frag) : Sp := fun vs H Q _ => ∃ (d : Addr) (us : List Addr) (rs : List Pr), vs = [.ref d] ∧ H d = some (.dK (kvsOf rs us)) ∧ BoA K H us rs ∧ (∀ r ∈ rs, StA H r.ts r.ss) ∧ rs.length ≤ 16 ∧ (∀ r ∈ rs, Right r) ∧
  ∀ t pl H', Up pl → (∀ z, z ∈ pl ↔ z ∈ readsOf rs) → H' t = some (.tup (pl.map V.str)) → Same H H' → Q (.ref t) H'
abbrev sPlaces : Stmt := top 30
theorem scPlaces : FnScope ["bodies", "body", "kind", "name"] ["bodies"] (defScope sPlaces) := ⟨rfl, rfl, rfl, by decide +kernel, rfl, by decide +kernel, by decide +kernel⟩
theorem ok_places {f : Addr} {fd : FuncData} (F : Fun K "_places" "_places" sPlaces f fd) (T : NsC K mg C) (mk1 : CalN P w K mg base C []) : FnOk P w K mg base CX0 3 f fd ["bodies"] (spPlaces K) := by
  refine F.ok scPlaces (fun vs H Q E h => ?_) (fun cdv A outer s H vs Q E hr h => ?_)
  · obtain ⟨d, us, rs, rfl, _⟩ := h
    rfl
  · obtain ⟨d, us, rs, rfl, hd, bo, st, few, ri, k⟩ := h
    refine ⟨_, (pss_one (ps_ret (fldK K (pe_mkc mk1 hr pass0 (pa_cons (pe_lock (pe_lc2 (own := [("body", 1), ("kind", 2), ("name", 3)]) (vs1 := [2, 3]) (g := (gName 1)) (g1 := (gTup K 2 (gCons (gName 2) (gCons (gName 3) gNil)))) (tt := tYes) (tt1 := _) rfl scPlaces.nd (pi_values (pv 0)) (blkOk_by (own := [("body", 1), ("kind", 2), ("name", 3)]) (N := ["bodies", "body", "kind", "name"]) (sc := defScope sPlaces) (by decide +kernel)) (by decide) (fun _ _ _ _ _ => (pg_name (i := 1) scPlaces.nd rfl (by first | exact Or.inl rfl | exact Or.inr rfl))) (fun _ _ _ _ _ => pts_nil) (fun _ _ _ _ _ => (piT K (pv 1))) (fun _ _ _ _ _ => (pg_tup rfl (pgs_cons (pg_name (i := 2) scPlaces.nd rfl (by first | exact Or.inl rfl | exact Or.inr rfl)) (pgs_cons (pg_name (i := 3) scPlaces.nd rfl (by first | exact Or.inl rfl | exact Or.inr rfl)) pgs_nil)))) (fun _ _ _ _ _ => pts_one (pt_cmpR op_eq (pv 2) pe_str (nomark _))) (fun _ _ _ _ _ => (pv 3)))) pa_nil))))), ?_⟩
    refine ⟨d, _, hd, trivial, fun od => ?_⟩
    have lt : us.length = rs.length := Paired.length bo
    have bf : BoA K (upd H d (.frz od (.dK (kvsOf rs us)))) us rs := bo.put hd
    have l12 : ∀ r ∈ rs, r.ss.length ≤ 12 := fun r hr => bodyB_len (ri r hr).2.1
    have fewR : ∀ l : List Pr, (∀ r ∈ l, r ∈ rs) → l.length ≤ 16 → (readsOf l).length ≤ 192 := fun l h h2 => by
      have := readsOf_len (rs := l) fun r hr => l12 r (h r hr)
      omega
    refine ⟨_, rfl, d, od, _, rfl, upd_same, fun D hD => ?_⟩
    refine it_any walk_values (fun i H' => Same (upd H d (.frz od (.dK (kvsOf rs us)))) H' ∧ H' D = some (.lst ((readsOf (rs.take i)).map V.str))) ⟨Same.new hD, upd_same⟩ (fun i H' _ q => q.1 _ _ upd_same) ?_ ?_
    · rintro i x H1 _ hi ⟨s1, h1⟩ ⟨rfl, ky, hx⟩
      obtain ⟨r, u, hr1, hu1, rfl, rfl⟩ := kvsOf_get hx
      obtain ⟨r', hr2, sq⟩ := paired_get bf hu1
      rw [hr1] at hr2
      cases hr2
      have rm : r ∈ rs := List.mem_of_getElem? hr1
      have ir : i < rs.length := by rw [kvsOf_len lt] at hi; exact hi
      have tk : rs.take (i + 1) = rs.take i ++ [r] := by rw [List.take_add_one, hr1]; rfl
      refine ⟨rfl, yes_then ?_⟩
      refine ⟨_, rfl, u, rfl, ⟨_, s1.tup sq⟩, ?_⟩
      have ln : r.ts.length = r.ss.length := Paired.length (st r rm)
      refine it_any walk_tup (fun j H' => Same (upd H d (.frz od (.dK (kvsOf rs us)))) H' ∧ H' D = some (.lst ((readsOf (rs.take i) ++ readsIn (r.ss.take j)).map V.str))) ⟨s1, by rw [h1]; simp [readsIn]⟩ (fun j H' _ q => q.1.tup sq) ?_ ?_
      · rintro j x H3 _ hj ⟨s3, h3⟩ ⟨rfl, hx⟩
        rw [List.getElem?_map] at hx
        obtain ⟨t, ht, rfl⟩ := Option.map_eq_some_iff.mp hx
        obtain ⟨sp, hsp, hts⟩ := (st r rm).get ht
        have hts : (upd H d (.frz od (.dK (kvsOf rs us)))) t = some (.tup [.str sp.1, .str sp.2]) := by
          rw [upd_ne (fun e => by rw [e, hd] at hts; simp at hts)]; exact hts
        have tk1 : r.ss.take (j + 1) = r.ss.take j ++ [sp] := by rw [List.take_add_one, hsp]; rfl
        refine ⟨t, _, rfl, .of (s3 _ _ hts), rfl, _, _, rfl, _, _, rfl, rfl, rfl, _, rfl, rfl, _, rfl, ite2 (fun q => ?_) fun q => ?_⟩
        · have q : sp.1 = ("read" : Str) := by have := of_decide_eq_true q; exact V.str.inj this
          refine ⟨_, rfl, _, h3, ?_, s3.mut hD, ?_⟩
          · rw [List.length_map, List.length_append]
            have a := fewR (rs.take i) (fun r hr => List.mem_of_mem_take hr) (by rw [List.length_take]; omega)
            have b := readsIn_len (r.ss.take j)
            rw [List.length_take] at b
            have c := l12 r rm
            exact Nat.lt_of_le_of_lt (by omega : _ ≤ 204) (by decide)
          · rw [upd_same, tk1, readsIn_snoc, if_pos q, ← List.append_assoc, List.map_append (l₂ := [sp.2])]
            rfl
        · have q : ¬ sp.1 = ("read" : Str) := fun e => q (decide_eq_true (by rw [e]))
          refine ⟨s3, ?_⟩
          rw [tk1, readsIn_snoc, if_neg q, List.append_nil]
          exact h3
      · rintro H3 ⟨s3, h3⟩
        refine ⟨s3, ?_⟩
        rw [List.length_map, ln, List.take_of_length_le (Nat.le_refl _)] at h3
        rw [tk, readsOf_snoc]
        exact h3
    · rintro H1 ⟨s1, h1⟩
      rw [kvsOf_len lt, List.take_of_length_le (Nat.le_refl _)] at h1
      refine ⟨s1 _ _ upd_same, ?_⟩
      have s2 : Same H (upd H1 d (.dK (kvsOf rs us))) := fun b o hb => by
        by_cases e : b = d
        · subst e
          rw [hd] at hb
          cases hb
          exact upd_same
        · rw [upd_ne e]
          refine s1 _ _ ?_
          rw [upd_ne e]; exact hb
      have dD : D ≠ d := fun e => by
        rw [e, s1 _ _ upd_same] at h1
        cases h1
      have h2 : (upd H1 d (.dK (kvsOf rs us))) D = some (.lst ((readsOf rs).map V.str)) := by rw [upd_ne dD]; exact h1
      generalize upd H1 d (.dK (kvsOf rs us)) = H2 at s2 h2
      intro L dxL nL hdL _
      have fewL : (readsOf rs).length < 4000 := by have := fewR rs (fun _ h => h) few; omega
      have okL : ∀ z ∈ readsOf rs, PyData.strOk z = true := fun z hz => (readsOf_ok ri z hz).ok
      refine ⟨L, dxL, _, _, rfl, upd_same, ArgS.same (.lst h2) (ns_grow nL hdL), fewL, fun tL ms H9 upL mL g1L g2L kpL => ⟨rfl, ?_⟩⟩
      obtain ⟨hL, e2⟩ := ns_after fewL okL nL hdL upL mL g1L g2L kpL
      exact ⟨L, C, dxL, _, _, rfl, g1L, T.ins.cl, T.nM, flM_get tL, k tL ms H9 upL mL g2L (s2.trans e2)⟩
end
end Mf
/-! tuple(d) of a dict; == of dicts whose values are data. -/
namespace Mf
open PySem PySem.Spec PyProof.Rows L2

section
variable {prog : Program} {w : World} {A : Around} {E : Value → Shared → Prop} {s : Shared} {T : String} {r d : Addr} {n : Nat} {P : Nat → Value → Prop} {OK : Heap → Prop}
theorem collect_src {Q : List Value → Shared → Prop} (K : PySem.W.KdlSrc prog w T r d n P OK) (hh : A.handled = none) (hok : OK s.heap) (hn : n ≤ sizeLine)
    (hQ : ∀ (h' : Heap) (tk : Nat) (acc : Array Value), (∀ b o, s.heap.get? b = some o → h'.get? b = some o) → ItemsOf P acc n → Q acc.toList { s with heap := h', toks := tk }) :
    wpAny (model prog w) A (collect (.ref r)) Q E s := by
  unfold collect
  refine wpAny_bind (wpAny_runValue (codeAny_builtin F.entry_proto_collect ?_))
  rw [Around.under_plainId F.plain_proto_collect _]
  show wpAny _ A.in1 (newList [] >>= fun l => again (.builtin "list.__iadd__" ⟨[l, .ref r], []⟩)) _ _ s
  refine wpAny_bind (wpAny_newObj_type ?_)
  refine wpAny_pure ⟨plainId_quiet F.plain_list_iadd _, codeAny_builtin F.entry_list_iadd ?_⟩
  rw [Around.under_plainId F.plain_list_iadd _]
  show wpAny _ A.in1 (Builtin.List.listExtendWith (.ref s.heap.objs.size) (.ref r) (.ref s.heap.objs.size)) _ _ _
  have hS : (s.heap.push { cls := .type "list", data := .seq ([] : List Value).toArray }).get? s.heap.objs.size = some { cls := .type "list", data := .seq #[] 0 } := Heap.get?_push_size _ rfl
  have hlt := K.there _ hok
  refine wpAny_mono (PySem.W.kdl_extend (A := A) (R := fun rr s' => rr = .ok (.ret (.ref s.heap.objs.size)) ∧ ∃ (h' : Heap) (tk : Nat) (acc : Array Value) (c' : Nat), s' = { s with heap := h', toks := tk } ∧
      (∀ b o, s.heap.get? b = some o → h'.get? b = some o) ∧ h'.get? s.heap.objs.size = some { cls := .type "list", dict := none, data := .seq acc c', slots := #[] } ∧ ItemsOf P acc n)
    (s := { s with heap := s.heap.push { cls := .type "list", data := .seq ([] : List Value).toArray } }) K hh (K.keep _ _ hok fun b _ o e => Heap.get?_push_of_some _ e) _ (Nat.ne_of_gt hlt.1) (Nat.ne_of_gt hlt.2) _ 0 hS
    (fun h' tk acc c' hk e hi => ⟨rfl, h', tk, acc, c', rfl, fun b o q => hk b o (Nat.ne_of_lt (Heap.lt_size q)) (Heap.get?_push_of_some _ q), e, hi⟩) hn) (fun fin s' h => ?_) (fun e s' h => ?_)
  · cases fin with
    | done f =>
      obtain ⟨e, h', tk, acc, c', rfl, hk, hS', hi⟩ := h
      cases e
      show wpAny _ A (load s.heap.objs.size >>= _) _ _ _
      exact wpAny_bind (wpAny_load hS' (wpAny_pure (hQ h' tk acc hk hi)))
    | again c' =>
      refine ⟨h.1, codeAny_mono h.2 fun rr s'' hr' => ?_⟩
      obtain ⟨rfl, h', tk, acc, c', rfl, hk, hS', hi⟩ := hr'
      show wpAny _ A (load s.heap.objs.size >>= _) _ _ _
      exact wpAny_bind (wpAny_load hS' (wpAny_pure (hQ h' tk acc hk hi)))
  · exact absurd h.1 (by simp)

theorem code_tuple_new_dict {Q₁ : Value → Shared → Prop} (K : PySem.W.KdlSrc prog w "dict" r d n P OK) (hh : A.handled = none) (hok : OK s.heap) (hn : n ≤ sizeLine)
    (h : ∀ (h' : Heap) (tk : Nat) (acc : Array Value), (∀ b o, s.heap.get? b = some o → h'.get? b = some o) → ItemsOf P acc n →
      Q₁ (.ref h'.objs.size) { s with heap := h'.push { cls := .type "tuple", data := .seq acc }, toks := tk }) :
    codeAny (model prog w) A (.call (.builtin "tuple.__new__") ⟨[.type "tuple", .ref r], []⟩) (wants Q₁ E) s := by
  refine codeAny_of_tree ?_
  show wpAny _ A.in1 (do checkBuiltinCall "tuple.__new__" ⟨[.type "tuple", .ref r], []⟩; again (.builtin "tuple.__new__" ⟨[.type "tuple", .ref r], []⟩)) _ _ s
  refine wpAny_bind (wpAny_of_eq (F.newCall_tuple_1 _) (wpAny_pure ⟨plainId_quiet F.plain_tuple_new _, codeAny_builtin F.entry_tuple_new ?_⟩))
  rw [Around.under_plainId F.plain_tuple_new _]
  have hsub := sub_tuple_self
  have hinit := init_tuple_lookup
  have hmh := madeHere_tuple
  have hTI : s.TypeIs (.ref r) "dict" := K.type s hok
  have hh1 : A.in1.handled = none := hh
  wp_walk using wpAny_typeOf hTI, collect_src (A := A.in1) K hh1 hok hn
  intro h' tk acc hk hacc
  show wpAny _ _ (Builtin.Tuple.tupleExact acc.toList.toArray >>= fun v => ret v) _ _ _
  unfold Builtin.Tuple.tupleExact
  refine wpAny_bind (wpAny_newObj_type ?_ (by show acc.toList.toArray.size ≤ sizeLine; simp only [Array.toArray_toList]; rw [hacc.1]; exact hn))
  refine wpAny_pure ?_
  have e : acc.toList.toArray = acc := by simp
  rw [e]
  exact h h' tk acc hk hacc

theorem call_tuple_src {Q : Value → Shared → Prop} (K : PySem.W.KdlSrc prog w "dict" r d n P OK) (hh : A.handled = none) (hok : OK s.heap) (hn : n ≤ sizeLine)
    (hQ : ∀ (h' : Heap) (tk : Nat) (acc : Array Value), (∀ b o, s.heap.get? b = some o → h'.get? b = some o) → ItemsOf P acc n →
      Q (.ref h'.objs.size) { s with heap := h'.push { cls := .type "tuple", data := .seq acc }, toks := tk }) :
    wpAny (model prog w) A (call (.type "tuple") [.ref r]) Q E s := by
  refine callType_codes (Q₁ := fun obj s₁ => s₁.TypeIs obj "tuple" ∧ Q obj s₁) F.called_tuple (F.typeCall_tuple_1 _) F.entry_object_init
    (code_tuple_new_dict (A := A.in1) K hh hok hn fun h' tk acc hk hacc => ⟨⟨_, Heap.get?_push_size _ rfl, rfl⟩, hQ h' tk acc hk hacc⟩) fun obj s₁ h₁ => ?_
  exact ⟨h₁.1, F.args_object_init_2 obj _, object_init_meets F.called_tuple.init.lookup F.called_tuple.made (by decide) prog w A.in1 _ s₁ ⟨h₁.1, rfl, h₁.2⟩⟩
end

theorem keyIs_relM {k : Key} {v : Value} (h : keyIs k v = true) : RelV (kV k) v := by
  rcases keyIs_shape h with ⟨i, t, e1, e2⟩ | ⟨x, t, e1, e2⟩
  · subst e1; exact ⟨t, e2⟩
  · subst e1; exact ⟨t, e2⟩
theorem vals_of_atM : ∀ {xs : List V} {us : List Value}, xs.length = us.length → (∀ (j : Nat) (x : V) (u : Value), xs[j]? = some x → us[j]? = some u → RelV x u) → Vals xs us
  | [], [], _, _ => .nil
  | [], _ :: _, h, _ => by simp at h
  | _ :: _, [], h, _ => by simp at h
  | x :: xs, u :: us, h, f => .cons (f 0 x u rfl rfl) (vals_of_atM (by simpa using h) fun j y w h1 h2 => f (j + 1) y w (by simpa using h1) (by simpa using h2))

/-- tuple(d): a new tuple of the keys -/
def rTupD : List V → Hp → VK → Prop := fun xs H Q => ∃ p kvs, xs = [.ref p] ∧ H p = some (.dK kvs) ∧ ∀ q, H q = none → Q (.ref q) (upd H q (.tup (kvs.map fun kv => kV kv.1)))
theorem call_tuple_dK {X : Cx} (hc : X.calm = true) : CallR X (.type "tuple") rTupD := by
  intro pins s σ H xs us Q I r h
  obtain ⟨p, kvs, e, hk, q⟩ := h
  subst e
  obtain ⟨u, eu, rx⟩ := vals1 r
  subst eu
  obtain rfl : u = Value.ref p := rx
  obtain ⟨z, lo, vs, rk, hd⟩ := (show ObjOk X.prog X.w H s.heap p (.dK kvs) from I.hok p _ hk)
  obtain ⟨ep, hat⟩ := hd.dictAt
  have hl : kvs.length = vs.length := Paired.length rk
  refine call_tuple_src (PySem.W.kdl_dict (knd := mixKind X.prog X.w) (kvs := vs) (ep := ep) lo) (I.ok.hd hc) hat (by rw [← hl]; exact z) fun h' tk acc hkeep hacc => ?_
  have I1 : Inv X pins σ H { s with heap := h', toks := tk } := I.kept (t' := tk) hkeep
  refine ⟨.ref h'.objs.size, upd H h'.objs.size (.tup (kvs.map fun kv => kV kv.1)), I1.laid (t' := tk) (fun b o e => Heap.get?_push_of_some _ e) (Nat.le_refl _) (show ObjOk X.prog X.w _ _ _ (.tup (kvs.map fun kv => kV kv.1)) from ⟨?_, acc.toList, ?_, ?_⟩), rfl, q _ (I1.hok.fresh (Nat.le_refl _))⟩
  · rw [List.length_map]; exact z
  · have el : acc.toList.length = acc.size := by simp
    refine vals_of_atM (by rw [List.length_map, el, hacc.1, hl]) fun j x w h1 h2 => ?_
    obtain ⟨k, y, hky, hi⟩ := hacc.2 j w (by rw [← Array.getElem?_toList]; exact h2)
    have e1 : (kvs.map (·.1))[j]? = some k := by
      rw [KV.keys rk, List.getElem?_map, hky] <;> rfl
    have e2 : (kvs.map fun kv => kV kv.1)[j]? = some (kV k) := by
      have e3 : (kvs.map fun kv => kV kv.1) = (kvs.map (·.1)).map kV := by rw [List.map_map] <;> rfl
      rw [e3, List.getElem?_map, e1] <;> rfl
    rw [e2] at h1
    cases h1
    exact keyIs_relM hi
  · rw [Array.toArray_toList]; exact IsTup.new _ _

/-! ### == of dicts whose values are data -/
def DpKV (K : PySem.W.Frag) (H : Hp) (ks : List (Key × V)) (ds : List (Key × PyData)) : Prop := Paired (fun p q => p.1 = q.1 ∧ Dp K H p.2 q.2 ∧ SeqAt.shaped q.2 = true) ks ds
def valD (es : List (Key × PyData)) (k : Key) : Option PyData := (es.find? fun p => decide (p.1 = k)).map (·.2)
def eqvKV (es : List (Key × PyData)) : List (Key × PyData) → Bool
  | [] => true
  | p :: r => (match valD es p.1 with | some e => PyData.eqv p.2 e | none => false) && eqvKV es r
section
variable {X : Cx} {pins : List (Addr × Obj)} {σ : L2.St} {H : Hp} {s : Shared}
theorem DpKV.val {K : PySem.W.Frag} {ls : List (Key × V)} {es : List (Key × PyData)} (h : DpKV K H ls es) (k : Key) : (valV ls k = none ∧ valD es k = none) ∨ ∃ v e, valV ls k = some v ∧ valD es k = some e ∧ Dp K H v e ∧ SeqAt.shaped e = true := by
  unfold valV valD
  induction h with
  | nil => exact .inl ⟨rfl, rfl⟩
  | @cons p q ps qs h t ih =>
    obtain ⟨h1, h2, h3⟩ := h
    by_cases e : p.1 = k
    · rw [List.find?_cons_of_pos (by simpa using e), List.find?_cons_of_pos (by rw [← h1]; simpa using e)]
      exact .inr ⟨_, _, rfl, rfl, h2, h3⟩
    · rw [List.find?_cons_of_neg (by simpa using e), List.find?_cons_of_neg (by rw [← h1]; simpa using e)]
      exact ih
theorem hits_data (I : Inv X pins σ H s) (hu : X.A.in1.units + 64 < cLine) {ls : List (Key × V)} {vb : List (Key × Value)} (rb : KV ls vb) {es : List (Key × PyData)} (hb : DpKV X.K H ls es) :
    ∀ {ks : List (Key × V)} {va : List (Key × Value)} {ds : List (Key × PyData)}, KV ks va → DpKV X.K H ks ds → PySem.W.KeqHits X.A.in1 s vb va (eqvKV es ds) := by
  intro ks va ds ra ha
  unfold KV at ra
  induction ra generalizing ds with
  | nil =>
    cases ha
    exact .nil
  | @cons p q ps qs h t ih =>
    cases ha with
    | @cons _ d _ dr hd tl =>
      obtain ⟨h1, h2⟩ := h
      obtain ⟨g1, g2, g3⟩ := hd
      obtain ⟨key, v⟩ := q
      have h1' : p.1 = key := h1
      have ek : d.1 = key := by rw [← g1]; exact h1
      unfold eqvKV
      rw [ek]
      have rr := rb.val key
      rcases hb.val key with ⟨n1, n2⟩ | ⟨y, e, n1, n2, n3, n4⟩
      · rw [n2]
        rw [n1] at rr
        have nn : valueAt vb key = none := by
          cases hv : valueAt vb key with
          | none => rfl
          | some z => rw [hv] at rr; exact rr.elim
        exact .miss nn
      · rw [n2]
        rw [n1] at rr
        obtain ⟨z, hz, rz⟩ := rr.some_of
        obtain ⟨as, r1⟩ := Dp.reads I d.2 p.2 v g2 h2
        obtain ⟨bs, r2⟩ := Dp.reads I e y z n3 rz
        exact .hit hz (PySem.W.keq_at r1 r2 g3 n4 hu) (ih tl)
def rEqDD (K : PySem.W.Frag) : R2 := fun x y H Q => ∃ a b ks ls ds es, x = .ref a ∧ y = .ref b ∧ H a = some (.dK ks) ∧ H b = some (.dK ls) ∧ DpKV K H ks ds ∧ DpKV K H ls es ∧ Q (.bl (decide (ds.length = es.length) && eqvKV es ds)) H
theorem op_eqDD (hu : X.A.units + 65 < cLine) : OpR X (compareOp .Eq) (rEqDD X.K) := by
  intro pins s σ H x y v u Q I rx ry h
  obtain ⟨a, b, ks, ls, ds, es, rfl, rfl, ea, eb, ha, hb, q⟩ := h
  obtain rfl : v = Value.ref a := rx
  obtain rfl : u = Value.ref b := ry
  obtain ⟨_, ya, va, ra, da⟩ := (show ObjOk X.prog X.w H s.heap a (.dK ks) from I.hok a _ ea)
  obtain ⟨_, yb, vb, rb, db⟩ := (show ObjOk X.prog X.w H s.heap b (.dK ls) from I.hok b _ eb)
  have e1 : va.length = ds.length := by rw [← ra.length]; exact Paired.length ha
  have e2 : vb.length = es.length := by rw [← rb.length]; exact Paired.length hb
  refine PySem.W.keq_eq (knd := mixKind X.prog X.w) (r := eqvKV es ds) ya yb da db (by omega) (fun _ => hits_data I (by show X.A.units + 1 + 64 < cLine; omega) rb hb ra ha) ?_
  refine ⟨.bl _, H, I, rfl, ?_⟩
  rw [show (va.length == vb.length) = decide (ds.length = es.length) from by rw [e1, e2]; rfl]
  exact q
end
end Mf
/-! a tuple made of a dict, kept whole: its methods can be called -/
namespace Mf
open PySem PySem.Spec PyProof.Rows L2
/-- a tuple without a dict of its own stands at n -/
def NmT (H : Hp) (n : Addr) (xs : List V) : Prop := ∃ o : Obj, o.cls = .type "tuple" ∧ o.dict = none ∧ H n = some (.frz o (.tup xs))
theorem NmT.sq {K : PySem.W.Frag} {H : Hp} {n : Addr} {xs : List V} (h : NmT H n xs) : SqT K H n xs := let ⟨o, _, _, e⟩ := h; .inl (.inr ⟨o, e⟩)
theorem NmT.mv {H H' : Hp} {n : Addr} {xs : List V} (h : NmT H n xs) (k : ∀ o, H n = some (.frz o (.tup xs)) → H' n = some (.frz o (.tup xs))) : NmT H' n xs := let ⟨o, a, b, e⟩ := h; ⟨o, a, b, k o e⟩
theorem NmT.same {H H' : Hp} {n : Addr} {xs : List V} (h : NmT H n xs) (s : Same H H') : NmT H' n xs := h.mv fun _ e => s _ _ e
def rTupDF : List V → Hp → VK → Prop := fun xs H Q => ∃ p kvs, xs = [.ref p] ∧ H p = some (.dK kvs) ∧ ∀ q o, H q = none → o.cls = .type "tuple" → o.dict = none → Q (.ref q) (upd H q (.frz o (.tup (kvs.map fun kv => kV kv.1))))
theorem call_tuple_dKF {X : Cx} (hc : X.calm = true) : CallR X (.type "tuple") rTupDF := by
  intro pins s σ H xs us Q I r h
  obtain ⟨p, kvs, e, hk, q⟩ := h
  subst e
  obtain ⟨u, eu, rx⟩ := vals1 r
  subst eu
  obtain rfl : u = Value.ref p := rx
  obtain ⟨z, lo, vs, rk, hd⟩ := (show ObjOk X.prog X.w H s.heap p (.dK kvs) from I.hok p _ hk)
  obtain ⟨ep, hat⟩ := hd.dictAt
  have hl : kvs.length = vs.length := Paired.length rk
  refine call_tuple_src (PySem.W.kdl_dict (knd := mixKind X.prog X.w) (kvs := vs) (ep := ep) lo) (I.ok.hd hc) hat (by rw [← hl]; exact z) fun h' tk acc hkeep hacc => ?_
  have I1 : Inv X pins σ H { s with heap := h', toks := tk } := I.kept (t' := tk) hkeep
  refine ⟨.ref h'.objs.size, upd H h'.objs.size (.frz { cls := .type "tuple", data := .seq acc } (.tup (kvs.map fun kv => kV kv.1))), I1.laid (t' := tk) (fun b o e => Heap.get?_push_of_some _ e) (Nat.le_refl _) (show ObjOk X.prog X.w _ _ _ (.frz _ (.tup (kvs.map fun kv => kV kv.1))) from ⟨Heap.get?_push_size _ rfl, ?_, acc.toList, ?_, ?_⟩), rfl, q _ _ (I1.hok.fresh (Nat.le_refl _)) rfl rfl⟩
  · rw [List.length_map]; exact z
  · have el : acc.toList.length = acc.size := by simp
    refine vals_of_atM (by rw [List.length_map, el, hacc.1, hl]) fun j x w h1 h2 => ?_
    obtain ⟨k, y, hky, hi⟩ := hacc.2 j w (by rw [← Array.getElem?_toList]; exact h2)
    have e1 : (kvs.map (·.1))[j]? = some k := by
      rw [KV.keys rk, List.getElem?_map, hky] <;> rfl
    have e2 : (kvs.map fun kv => kV kv.1)[j]? = some (kV k) := by
      have e3 : (kvs.map fun kv => kV kv.1) = (kvs.map (·.1)).map kV := by rw [List.map_map] <;> rfl
      rw [e3, List.getElem?_map, e1] <;> rfl
    rw [e2] at h1
    cases h1
    exact keyIs_relM hi
  · rw [Array.toArray_toList]; exact IsTup.new _ _
/-- a method of such a tuple -/
def tBMT (r : V → List V → Hp → VK → Prop) (to : TE) (t : TA) : TE := fun σ H Q => to σ H fun x H1 => (∃ n xs, x = .ref n ∧ NmT H1 n xs) ∧ t σ H1 fun xs H2 => r x xs H2 Q
theorem pe_bmT {X : Cx} {o e : Expr} {es : List Expr} {to : TE} {t : TA} {name : Str} {apos cpos : Pos} {id : String} {r : V → List V → Hp → VK → Prop}
    (pa : PlainAttrs "tuple") (slot : Slot "tuple" name id) (hty : typeOf (.builtin id) = pure (.type "method_descriptor")) (hm : MtR X id r) (ho : PE X o to) (ha : PA X (e :: es) t)
    (hbase : attributeBase o name X.env (eval o X.env) = eval o X.env := by rfl)
    (hfew : ((backTo cpos (starEach (e :: es) X.env)).all (fun x => !x.1) && (backToKw cpos (keywordEach [] X.env)).all (fun x => x.1.isSome)
      && decide ((e :: es).length + ([] : List Keyword).length + (if ([] : List Keyword).isEmpty then 0 else 1) < 30)) = true := by rfl)
    (hline : (apos.endLine == cpos.line) = true := by rfl) (hs : starEach (e :: es) X.env = (false, eval e X.env) :: starEach es X.env := by rfl) (hplain : (backTo cpos (starEach es X.env)).any (·.1) = false := by rfl) :
    PE X (.Call (.Attribute o name apos) (e :: es) [] cpos) (tBMT r to t) := by
  refine ⟨fun pins s σ H Q I h => ?_⟩
  refine wpAny_Call_method_late hbase hfew hline rfl (thn (ho.run pins s σ H _ I h) fun v s1 ⟨x, H1, I1, r1, ⟨n, xs, ex, ob, hc, hd, hn⟩, q1⟩ => ?_)
  subst ex
  obtain rfl : v = Value.ref n := r1
  have g := (show ObjOk X.prog X.w H1 s1.heap n (.frz ob (.tup xs)) from I1.hok n _ hn).1
  refine ⟨"tuple", id, pa, slot, hty, ⟨ob, g, hc⟩, fun a ea => by cases ea; exact ⟨ob, g, hd⟩, ?_⟩
  have hA := ha.run cpos pins s1 σ H1 _ I1 q1
  rw [hs] at hA ⊢
  refine Calls.callWith_builtin (by show (false || (backTo cpos (starEach es X.env)).any (·.1)) = false; rw [hplain] <;> rfl) (Calls.evalArgs_plain ?_)
  exact thn hA fun us s2 ⟨vs, H2, I2, r2, q2⟩ => hm pins s2 σ H2 (.ref n) vs (.ref n) us Q I2 rfl r2 q2
end Mf
namespace Mf
open PySem L2
/-! ### the class Program -/
def flP (d n q : Addr) : List (Str × V) := putF "places" (.ref q) (putF "names" (.ref n) (putF "_bodies" (.ref d) []))
theorem flP_b (d n q : Addr) : (flP d n q).lookup ("_bodies" : Str) = some (.ref d) := by
  unfold flP
  rw [lookup_putF, if_neg (by decide), lookup_putF, if_neg (by decide), lookup_putF, if_pos rfl]
theorem flP_n (d n q : Addr) : (flP d n q).lookup ("names" : Str) = some (.ref n) := by
  unfold flP
  rw [lookup_putF, if_neg (by decide), lookup_putF, if_pos rfl]
theorem flP_q (d n q : Addr) : (flP d n q).lookup ("places" : Str) = some (.ref q) := by
  unfold flP
  rw [lookup_putF, if_pos rfl]
/-- a Program stands at p -/
structure PrgA (K : PySem.W.Frag) (Cp : Addr) (H : Hp) (p dx d n q : Addr) (us : List Addr) (rs : List Pr) (pl : List Str) : Prop where
  o : H p = some (.ins Cp dx (flP d n q))
  b : H d = some (.dK (kvsOf rs us))
  bo : BoA K H us rs
  st : ∀ r ∈ rs, StA H r.ts r.ss
  n : NmT H n ((rs.map Pr.name).map V.str)
  q : H q = some (.tup (pl.map V.str))
def pls (rs : List Pr) : List Pc := rs.map fun r => (r.name, r.ss)
theorem pls_names (rs : List Pr) : (pls rs).map (·.1) = rs.map Pr.name := by unfold pls; rw [List.map_map]; rfl
/-- the procedures are right -/
structure RightP (rs : List Pr) : Prop where
  few : rs.length ≤ 16
  ne : rs ≠ []
  nd : (rs.map Pr.name).Nodup
  ri : ∀ r ∈ rs, Right r
  ca : Called rs
def Prg (K : PySem.W.Frag) (Cp : Addr) (H : Hp) (p : Addr) (rs : List Pr) : Prop := ∃ dx d n q us pl, PrgA K Cp H p dx d n q us rs pl ∧ RightP rs ∧ Up pl ∧ ∀ z, z ∈ pl ↔ z ∈ readsOf rs
theorem StA.sameN {H H' : Hp} {ts : List Addr} {ss : List (Str × Str)} (x : StA H ts ss) (h : SameN H H') : StA H' ts ss := by
  induction x with
  | nil => exact .nil
  | cons a _ ih => exact .cons (h _ _ noL_tup a) ih
theorem BoA.sameN {K : PySem.W.Frag} {H H' : Hp} {us : List Addr} {rs : List Pr} (x : BoA K H us rs) (h : SameN H H') : BoA K H' us rs := by
  induction x with
  | nil => exact .nil
  | cons a _ ih => exact .cons (h.tup a) ih
theorem noL_frz {o : Obj} {u : HO} : NoL (.frz o u) := fun _ h => nomatch h
theorem PrgA.sameN {K : PySem.W.Frag} {Cp : Addr} {H H' : Hp} {p dx d n q : Addr} {us : List Addr} {rs : List Pr} {pl : List Str} (x : PrgA K Cp H p dx d n q us rs pl) (h : SameN H H') : PrgA K Cp H' p dx d n q us rs pl :=
  ⟨h _ _ noL_ins x.o, h _ _ noL_dK x.b, x.bo.sameN h, fun r hr => (x.st r hr).sameN h, x.n.mv fun _ e => h _ _ noL_frz e, h _ _ noL_tup x.q⟩
theorem Prg.sameN {K : PySem.W.Frag} {Cp : Addr} {H H' : Hp} {p : Addr} {rs : List Pr} (x : Prg K Cp H p rs) (h : SameN H H') : Prg K Cp H' p rs :=
  let ⟨dx, d, n, q, us, pl, a, b⟩ := x
  ⟨dx, d, n, q, us, pl, a.sameN h, b⟩
theorem Prg.same {K : PySem.W.Frag} {Cp : Addr} {H H' : Hp} {p : Addr} {rs : List Pr} (x : Prg K Cp H p rs) (h : Same H H') : Prg K Cp H' p rs := x.sameN (.of h)
structure PgC (K : PySem.W.Frag) (mg : Str → Option Value) (C : Addr) : Prop where
  ins : C8.InsC K C
  nB : NoAttr K C "_bodies"
  nN : NoAttr K C "names"
  nQ : NoAttr K C "places"
  mgC : mg "Program" = some (.ref C)
  kL : PySem.W.kitOne K (.type "list") (.ref C) = some false
  kT : PySem.W.kitOne K (.type "tuple") (.ref C) = some false
  bT : PySem.W.notFirst K C (.type "tuple") = true
  bL : PySem.W.notFirst K C (.type "list") = true
  mIsi : mg "isinstance" = none
  mTuple : mg "tuple" = none
  mLen : mg "len" = none
section
variable {P : Program} {w : World} {K : PySem.W.Frag} {mg : Str → Option Value} {base : Heap} {Cp C : Addr}
theorem PgC.isi {H : Hp} {p : Addr} {dx : Addr} {fs : List (Str × V)} (T : PgC K mg Cp) (h : H p = some (.ins Cp dx fs)) : TyX K H (.ref p) (.ref Cp) := .base (.ins h T.ins.cl T.ins.ha T.ins.hn T.ins.htk T.ins.hm)
def spPgInit (K : PySem.W.Frag) (Cp : Addr) : Sp := fun vs H Q _ => ∃ (p dx a : Addr) (ps : List Addr) (rs : List Pr), vs = [.ref p, .ref a] ∧ H p = some (.ins Cp dx []) ∧ (SqL K H a (ps.map V.ref) ∨ SqT K H a (ps.map V.ref)) ∧ Paired (PrA K H) ps rs ∧ RightP rs ∧
  ∀ H', Prg K Cp H' p rs → (∀ b o, b ≠ p → H b = some o → H' b = some o) → Q .non H'
abbrev sProgramInit : Stmt := inClass (top 25) 0
theorem scProgramInit : FnScope ["self", "procedures"] ["self", "procedures"] (defScope sProgramInit) := ⟨rfl, rfl, rfl, by decide +kernel, rfl, by decide +kernel, by decide +kernel⟩
theorem kvs_names : ∀ {rs : List Pr} {us : List Addr}, us.length = rs.length → ((kvsOf rs us).map fun kv => kV kv.1) = (rs.map Pr.name).map V.str
  | [], [], _ => rfl
  | a :: rs, b :: us, h => by
    show kV (Sum.inr a.name) :: (kvsOf rs us).map (fun kv => kV kv.1) = _
    rw [kvs_names (by simpa using h)]; rfl
  | [], b :: us, h => by simp at h
  | a :: rs, [], h => by simp at h
theorem PrA.sta {H : Hp} {ps : List Addr} {rs : List Pr} (h : Paired (PrA K H) ps rs) : ∀ r ∈ rs, StA H r.ts r.ss := by
  induction h with
  | nil => intro r hr; cases hr
  | cons a _ ih =>
    intro r hr
    rcases List.mem_cons.mp hr with rfl | hr
    · exact a.2.2
    · exact ih r hr
theorem paired_same {α β : Type} {R S : α → β → Prop} {xs : List α} {ys : List β} (r : Paired R xs ys) (h : ∀ a b, R a b → S a b) : Paired S xs ys := by
  induction r with
  | nil => exact .nil
  | cons a _ ih => exact .cons (h _ _ a) ih
/-- all but p, which is an instance, stays: what is not an instance -/
theorem but_tup {H H' : Hp} {p t : Addr} {o : HO} {xs : List V} (b : ∀ b o, b ≠ p → H b = some o → H' b = some o) (hp : H p = some o) (n : ∀ ys, o ≠ .tup ys ∧ ∀ q u, o ≠ .frz q u) (h : SqT K H t xs) : SqT K H' t xs := by
  rcases h with (h | ⟨q, h⟩) | h
  · exact .inl (.inl (b _ _ (fun e => by rw [e, hp] at h; exact (n xs).1 (Option.some.inj h)) h))
  · exact .inl (.inr ⟨q, b _ _ (fun e => by rw [e, hp] at h; exact (n xs).2 _ _ (Option.some.inj h)) h⟩)
  · exact .inr h
theorem ok_pgInit {f : Addr} {fd : FuncData} (F : Fun K "__init__" "Program.__init__" sProgramInit f fd) (T : PgC K mg Cp) (c__checked_bodies : Cal P w K mg base CX0 4 "_checked_bodies" ["procedures"] (spChecked K)) (c__check_callees : Cal P w K mg base CX0 1 "_check_callees" ["bodies"] (spCallees K))
    (c__places : Cal P w K mg base CX0 3 "_places" ["bodies"] (spPlaces K)) : FnOk P w K mg base CX0 5 f fd ["self", "procedures"] (spPgInit K Cp) := by
  refine F.ok scProgramInit (fun vs H Q E h => ?_) (fun cdv A outer s H vs Q E hr h => ?_)
  · obtain ⟨p, dx, a, ps, rs, rfl, _⟩ := h
    rfl
  · obtain ⟨p, dx, a, ps, rs, rfl, hp, ha, pr, R, k⟩ := h
    have mTuple := T.mTuple
    have hr__checked_bodies := hr; have hr__check_callees := hr.mono (by decide : 1 ≤ 4); have hr__places := hr.mono (by decide : 3 ≤ 4)
    refine ⟨_, (pss_cons (ps_fld (pv 0) (pe_cal c__checked_bodies hr__checked_bodies pass0 (pa_cons (pv 1) pa_nil)) rfl)
      (pss_cons (ps_expr (pe_cal c__check_callees hr__check_callees pass0 (pa_cons (fldK K (pv 0)) pa_nil)))
      (pss_cons (ps_fld (pv 0) (pe_callTy (call_tuple_dKF rfl) (by rfl) mTuple (by decide +kernel) (pa_cons (fldK K (pv 0)) pa_nil)) rfl)
      (pss_one (ps_fld (pv 0) (pe_cal c__places hr__places pass0 (pa_cons (fldK K (pv 0)) pa_nil)) rfl))))), ?_⟩
    refine ⟨_, rfl, a, ps, rs, rfl, ha, pr, R.few, R.ne, R.nd, R.ri, fun d us H1 hd bo s1 => ?_⟩
    have st1 : ∀ r ∈ rs, StA H1 r.ts r.ss := fun r hr => (PrA.sta pr r hr).same s1
    have hp1 := s1 _ _ hp
    refine ⟨_, rfl, p, Cp, dx, [], rfl, hp1, T.ins.cl, T.nB, (by show 0 < 1000; decide), ?_⟩
    -- behind self._bodies
    have b2 : ∀ b o, b ≠ p → H1 b = some o → (upd H1 p (.ins Cp dx (putF "_bodies" (.ref d) []))) b = some o := fun b o n e => by rw [upd_ne n]; exact e
    have hp2 : (upd H1 p (.ins Cp dx (putF "_bodies" (.ref d) []))) p = some (.ins Cp dx (putF "_bodies" (.ref d) [])) := upd_same
    have hd2 := b2 _ _ (ne_of hd hp1 (by intro z; cases z)) hd
    have st2 : ∀ r ∈ rs, StA (upd H1 p (.ins Cp dx (putF "_bodies" (.ref d) []))) r.ts r.ss := fun r hr => paired_same (st1 r hr) fun t s ht => b2 _ _ (ne_of ht hp1 (by intro z; cases z)) ht
    have bo2 : BoA K (upd H1 p (.ins Cp dx (putF "_bodies" (.ref d) []))) us rs := paired_same bo fun u r hu => but_tup b2 hp1 (fun _ => ⟨(by intro z; cases z), fun _ _ => (by intro z; cases z)⟩) hu
    generalize upd H1 p (.ins Cp dx (putF "_bodies" (.ref d) [])) = H2 at b2 hp2 hd2 st2 bo2
    have lb : (putF "_bodies" (.ref d) [] : List (Str × V)).lookup ("_bodies" : Str) = some (.ref d) := by rw [lookup_putF, if_pos rfl]
    refine ⟨_, rfl, p, Cp, dx, _, _, rfl, hp2, T.ins.cl, T.nB, lb, d, us, rs, rfl, hd2, bo2, st2, R.ca, fun H3 s3 => ?_⟩
    have hd3 := s3 _ _ hd2
    have hp3 := s3 _ _ hp2
    refine ⟨_, rfl, p, Cp, dx, _, _, rfl, hp3, T.ins.cl, T.nB, lb, d, _, rfl, hd3, fun n on hn on1 on2 => ?_⟩
    have hp4 := (Same.new (o := .frz on (.tup ((kvsOf rs us).map fun kv => kV kv.1))) hn) _ _ hp3
    refine ⟨_, rfl, p, Cp, dx, _, rfl, hp4, T.ins.cl, T.nN, (by show 1 < 1000; decide), ?_⟩
    have lu : us.length = rs.length := Paired.length bo
    rw [kvs_names lu] at hp4 ⊢
    have s4 : Same H3 (upd H3 n (.frz on (.tup ((rs.map Pr.name).map V.str)))) := Same.new hn
    have hn4 : (upd H3 n (.frz on (.tup ((rs.map Pr.name).map V.str)))) n = some (.frz on (.tup ((rs.map Pr.name).map V.str))) := upd_same
    generalize upd H3 n (.frz on (.tup ((rs.map Pr.name).map V.str))) = H4 at hp4 s4 hn4
    have b5 : ∀ b o, b ≠ p → H4 b = some o → (upd H4 p (.ins Cp dx (putF "names" (.ref n) (putF "_bodies" (.ref d) [])))) b = some o := fun b o n e => by rw [upd_ne n]; exact e
    have hp5 : (upd H4 p (.ins Cp dx (putF "names" (.ref n) (putF "_bodies" (.ref d) [])))) p = some (.ins Cp dx (putF "names" (.ref n) (putF "_bodies" (.ref d) []))) := upd_same
    generalize upd H4 p (.ins Cp dx (putF "names" (.ref n) (putF "_bodies" (.ref d) []))) = H5 at b5 hp5
    have hd4 := s4 _ _ hd3
    have hd5 := b5 _ _ (ne_of hd4 hp4 (by intro z; cases z)) hd4
    have hn5 := b5 _ _ (ne_of hn4 hp4 (by intro z; cases z)) hn4
    have s24 := s3.trans s4
    have st5 : ∀ r ∈ rs, StA H5 r.ts r.ss := fun r hr => paired_same ((st2 r hr).same s24) fun t s ht => b5 _ _ (ne_of ht hp4 (by intro z; cases z)) ht
    have bo5 : BoA K H5 us rs := paired_same (bo2.same s24) fun u r hu => but_tup b5 hp4 (fun _ => ⟨(by intro z; cases z), fun _ _ => (by intro z; cases z)⟩) hu
    have lb5 : (putF "names" (.ref n) (putF "_bodies" (.ref d) []) : List (Str × V)).lookup ("_bodies" : Str) = some (.ref d) := by rw [lookup_putF, if_neg (by decide), lookup_putF, if_pos rfl]
    refine ⟨_, rfl, p, Cp, dx, _, _, rfl, hp5, T.ins.cl, T.nB, lb5, d, us, rs, rfl, hd5, bo5, st5, R.few, R.ri, fun q pl H6 up m hq s6 => ?_⟩
    have hp6 := s6 _ _ hp5
    refine ⟨_, rfl, p, Cp, dx, _, rfl, hp6, T.ins.cl, T.nQ, (by show 2 < 1000; decide), ?_⟩
    have b7 : ∀ b o, b ≠ p → H6 b = some o → (upd H6 p (.ins Cp dx (flP d n q))) b = some o := fun b o n e => by rw [upd_ne n]; exact e
    refine k _ ⟨dx, d, n, q, us, pl, ⟨upd_same, ?_, ?_, ?_, ?_, ?_⟩, R, up, m⟩ fun b o nb e => ?_
    · exact b7 _ _ (ne_of (s6 _ _ hd5) hp6 (by intro z; cases z)) (s6 _ _ hd5)
    · exact paired_same (bo5.same s6) fun u r hu => but_tup b7 hp6 (fun _ => ⟨(by intro z; cases z), fun _ _ => (by intro z; cases z)⟩) hu
    · exact fun r hr => paired_same ((st5 r hr).same s6) fun t s ht => b7 _ _ (ne_of ht hp6 (by intro z; cases z)) ht
    · exact ⟨on, on1, on2, b7 _ _ (ne_of (s6 _ _ hn5) hp6 (by intro z; cases z)) (s6 _ _ hn5)⟩
    · exact b7 _ _ (ne_of hq hp6 (by intro z; cases z)) hq
    · exact b7 _ _ nb (s6 _ _ (b5 _ _ nb (s4 _ _ (s3 _ _ (b2 _ _ nb (s1 _ _ e))))))
end
end Mf
namespace Mf
open PySem L2
section
variable {P : Program} {w : World} {K : PySem.W.Frag} {mg : Str → Option Value} {base : Heap} {Cp C : Addr}
theorem kvs_val : ∀ {rs : List Pr} {us : List Addr} {r : Pr}, us.length = rs.length → (rs.map Pr.name).Nodup → r ∈ rs → ∃ (i : Nat) (u : Addr), rs[i]? = some r ∧ us[i]? = some u ∧ valV (kvsOf rs us) (Sum.inr r.name) = some (.ref u)
  | [], _, r, _, _, h => by cases h
  | a :: rs, [], _, h, _, _ => by simp at h
  | a :: rs, b :: us, r, l, nd, h => by
    rw [List.map_cons, List.nodup_cons] at nd
    show ∃ i u, _ ∧ _ ∧ valV ((Sum.inr a.name, V.ref b) :: kvsOf rs us) _ = _
    by_cases e : a.name = r.name
    · have hr : r = a := by
        rcases List.mem_cons.mp h with q | q
        · exact q
        · exact absurd (List.mem_map.mpr ⟨r, q, e.symm⟩) nd.1
      subst hr
      exact ⟨0, b, rfl, rfl, valV_pos rfl⟩
    · have hr : r ∈ rs := by
        rcases List.mem_cons.mp h with q | q
        · subst q; exact absurd rfl e
        · exact q
      obtain ⟨i, u, h1, h2, h3⟩ := kvs_val (by simpa using l) nd.2 hr
      exact ⟨i + 1, u, h1, h2, by rw [valV_neg (fun q => e (Sum.inr.inj q))]; exact h3⟩
def spPgGet (K : PySem.W.Frag) (Cp : Addr) : Sp := fun vs H Q _ => ∃ (p : Addr) (rs : List Pr) (r : Pr), vs = [.ref p, .str r.name] ∧ Prg K Cp H p rs ∧ r ∈ rs ∧ ∀ u, SqT K H u (r.ts.map V.ref) → StA H r.ts r.ss → Q (.ref u) H
abbrev sProgramGetitem : Stmt := inClass (top 25) 3
theorem scProgramGetitem : FnScope ["self", "name"] ["self", "name"] (defScope sProgramGetitem) := ⟨rfl, rfl, rfl, by decide +kernel, rfl, by decide +kernel, by decide +kernel⟩
theorem ok_pgGet {f : Addr} {fd : FuncData} (F : Fun K "__getitem__" "Program.__getitem__" sProgramGetitem f fd) (T : PgC K mg Cp) : FnOk P w K mg base CX0 1 f fd ["self", "name"] (spPgGet K Cp) := by
  refine F.ok scProgramGetitem (fun vs H Q E h => ?_) (fun cdv A outer s H vs Q E hr h => ?_)
  · obtain ⟨p, rs, r, rfl, _⟩ := h
    rfl
  · obtain ⟨p, rs, r, rfl, ⟨dx, d, n, q, us, pl, x, R, up, m⟩, hr', k⟩ := h
    have hu : (A.deeper (PyProof.Rows.envOfC "Program.__getitem__" (defScope sProgramGetitem) s.heap.objs.size f cdv)).units + 1 < cLine := by have := hr.units; omega
    refine ⟨_, (pss_cons (ps_if (pt_cmpR (nin K) (pv 1) (fldK K (pv 0)) (by rfl))
        (pss_one ps_never) pss_nil)
      (pss_one (ps_ret (pe_dget hu (fldK K (pv 0)) (pv 1) (fun _ _ => rfl))))), ?_⟩
    have ln : us.length = rs.length := Paired.length x.bo
    obtain ⟨i, u, h1, h2, h3⟩ := kvs_val ln R.nd hr'
    obtain ⟨r2, h4, h5⟩ := paired_get x.bo h2
    rw [h1] at h4
    cases h4
    refine ⟨_, rfl, _, rfl, p, Cp, dx, _, _, rfl, x.o, T.ins.cl, T.nN, flP_n d n q, n, _, rfl, .inr x.n.sq, rfl, flat_strs _, _, rfl, ?_⟩
    show if (!inV (.str r.name) ((rs.map Pr.name).map V.str)) = true then _ else _
    rw [inV_str, decide_eq_true (List.mem_map.mpr ⟨r, hr', rfl⟩)]
    refine iteF ?_
    exact ⟨_, rfl, p, Cp, dx, _, _, rfl, x.o, T.ins.cl, T.nB, flP_b d n q, _, rfl, d, _, rfl, .inl ⟨_, Sum.inr r.name, .inl x.b, rfl, h3.symm⟩, k u h5 (x.st r hr')⟩
def spPgHas (K : PySem.W.Frag) (Cp : Addr) : Sp := fun vs H Q _ => ∃ (p : Addr) (rs : List Pr) (z : Str), vs = [.ref p, .str z] ∧ Prg K Cp H p rs ∧ Q (.bl (decide (z ∈ rs.map Pr.name))) H
abbrev sProgramContains : Stmt := inClass (top 25) 5
theorem scProgramContains : FnScope ["self", "name"] ["self", "name"] (defScope sProgramContains) := ⟨rfl, rfl, rfl, by decide +kernel, rfl, by decide +kernel, by decide +kernel⟩
theorem ok_pgHas {f : Addr} {fd : FuncData} (F : Fun K "__contains__" "Program.__contains__" sProgramContains f fd) (T : PgC K mg Cp) : FnOk P w K mg base CX0 1 f fd ["self", "name"] (spPgHas K Cp) := by
  refine F.ok scProgramContains (fun vs H Q E h => ?_) (fun cdv A outer s H vs Q E hr h => ?_)
  · obtain ⟨p, rs, z, rfl, _⟩ := h
    rfl
  · obtain ⟨p, rs, z, rfl, ⟨dx, d, n, q, us, pl, x, R, up, m⟩, k⟩ := h
    refine ⟨_, (pss_one (ps_ret (pe_cmpR (oin K) (pv 1) (fldK K (pv 0)) (by rfl)))), ?_⟩
    refine ⟨_, rfl, _, rfl, p, Cp, dx, _, _, rfl, x.o, T.ins.cl, T.nN, flP_n d n q, n, _, rfl, .inr x.n.sq, rfl, flat_strs _, ?_⟩
    show Q (.bl (inV (.str z) ((rs.map Pr.name).map V.str))) H
    rw [inV_str]
    exact k
def spPgLen (K : PySem.W.Frag) (Cp : Addr) : Sp := fun vs H Q _ => ∃ (p : Addr) (rs : List Pr), vs = [.ref p] ∧ Prg K Cp H p rs ∧ Q (.int (rs.length : Nat)) H
abbrev sProgramLen : Stmt := inClass (top 25) 6
theorem scProgramLen : FnScope ["self"] ["self"] (defScope sProgramLen) := ⟨rfl, rfl, rfl, by decide +kernel, rfl, by decide +kernel, by decide +kernel⟩
theorem ok_pgLen {f : Addr} {fd : FuncData} (F : Fun K "__len__" "Program.__len__" sProgramLen f fd) (T : PgC K mg Cp) : FnOk P w K mg base CX0 1 f fd ["self"] (spPgLen K Cp) := by
  refine F.ok scProgramLen (fun vs H Q E h => ?_) (fun cdv A outer s H vs Q E hr h => ?_)
  · obtain ⟨p, rs, rfl, _⟩ := h
    rfl
  · obtain ⟨p, rs, rfl, ⟨dx, d, n, q, us, pl, x, R, up, m⟩, k⟩ := h
    have mLen := T.mLen
    refine ⟨_, (pss_one (ps_ret (pe_callB (k_len K) (by rfl) mLen (by decide +kernel) (pa_cons (fldK K (pv 0)) pa_nil)))), ?_⟩
    refine ⟨_, rfl, p, Cp, dx, _, _, rfl, x.o, T.ins.cl, T.nN, flP_n d n q, n, _, rfl, .inr x.n.sq, ?_⟩
    rw [List.length_map, List.length_map]
    exact k
/-! ### == -/
theorem names_ok {rs : List Pr} (R : RightP rs) : ∀ z ∈ rs.map Pr.name, PyData.strOk z = true := fun z hz => by
  obtain ⟨r, hr, rfl⟩ := List.mem_map.mp hz
  exact (R.ri r hr).1.ok
def dsOf (rs : List Pr) : List (Key × PyData) := rs.map fun r => (Sum.inr r.name, bdT r.ss)
theorem dp_body {H : Hp} {u : Addr} {r : Pr} (h : SqT K H u (r.ts.map V.ref)) (st : StA H r.ts r.ss) : Dp K H (.ref u) (bdT r.ss) :=
  .tup h (dpPair st fun t s ht => .tup (.of ht) (.cons (.str _) (.cons (.str _) .nil)))
theorem right_st {r : Pr} (h : Right r) : ∀ s ∈ r.ss, StOk s := fun s hs => stepB_ok (bodyB_st h.2.1 s hs)
theorem dpKV_of {H : Hp} : ∀ {rs : List Pr} {us : List Addr}, BoA K H us rs → (∀ r ∈ rs, StA H r.ts r.ss) → (∀ r ∈ rs, Right r) → DpKV K H (kvsOf rs us) (dsOf rs)
  | [], [], _, _, _ => .nil
  | r :: rs, u :: us, .cons a b, st, ri => .cons ⟨rfl, dp_body a (st r List.mem_cons_self), (sh_bdT (right_st (ri r List.mem_cons_self))).sh⟩ (dpKV_of b (fun x hx => st x (List.mem_cons_of_mem _ hx)) fun x hx => ri x (List.mem_cons_of_mem _ hx))
theorem valD_of : ∀ {rs : List Pr} {r : Pr}, (rs.map Pr.name).Nodup → r ∈ rs → valD (dsOf rs) (Sum.inr r.name) = some (bdT r.ss)
  | [], r, _, h => by cases h
  | a :: rs, r, nd, h => by
    rw [List.map_cons, List.nodup_cons] at nd
    unfold valD dsOf
    rw [List.map_cons]
    by_cases e : a.name = r.name
    · rw [List.find?_cons_of_pos (by simpa using e)]
      rcases List.mem_cons.mp h with q | q
      · rw [q]; rfl
      · exact absurd (List.mem_map.mpr ⟨r, q, e.symm⟩) nd.1
    · rw [List.find?_cons_of_neg (by simpa using e)]
      rcases List.mem_cons.mp h with q | q
      · subst q; exact absurd rfl e
      · exact valD_of nd.2 q
theorem eqv_dsE {es : List Pr} (nd : (es.map Pr.name).Nodup) : ∀ {rs es' : List Pr}, (∀ e ∈ es', e ∈ es) → rs.map Pr.name = es'.map Pr.name → eqvKV (dsOf es) (dsOf rs) = decide (pls rs = pls es')
  | [], [], _, _ => rfl
  | [], _ :: _, _, h => by simp at h
  | _ :: _, [], _, h => by simp at h
  | r :: rs, e :: es', hm, h => by
    rw [List.map_cons, List.map_cons, List.cons.injEq] at h
    show ((match valD (dsOf es) (Sum.inr r.name) with | some d => PyData.eqv (bdT r.ss) d | none => false) && eqvKV (dsOf es) (dsOf rs)) = decide ((r.name, r.ss) :: pls rs = (e.name, e.ss) :: pls es')
    rw [h.1, valD_of nd (hm e List.mem_cons_self), eqv_dsE nd (fun x hx => hm x (List.mem_cons_of_mem _ hx)) h.2]
    show (PyData.eqv (bdT r.ss) (bdT e.ss) && _) = _
    rw [eqv_bdT]
    by_cases a : r.ss = e.ss <;> by_cases b : pls rs = pls es' <;> simp [a, b]
def OthP (K : PySem.W.Frag) (Cp : Addr) (H : Hp) (y : V) (rs : List Pr) (b : Bool) : Prop := (∃ q es, y = .ref q ∧ Prg K Cp H q es ∧ b = decide (pls rs = pls es)) ∨ ∃ t, TyX K H y t ∧ PySem.W.kitOne K t (.ref Cp) = some false ∧ b = false
def spPgEq (K : PySem.W.Frag) (Cp : Addr) : Sp := fun vs H Q _ => ∃ (p : Addr) (rs : List Pr) (y : V) (b : Bool), vs = [.ref p, y] ∧ Prg K Cp H p rs ∧ OthP K Cp H y rs b ∧ Q (.bl b) H
abbrev sProgramEq : Stmt := inClass (top 25) 7
theorem scProgramEq : FnScope ["self", "other"] ["self", "other"] (defScope sProgramEq) := ⟨rfl, rfl, rfl, by decide +kernel, rfl, by decide +kernel, by decide +kernel⟩
theorem ok_pgEq {f : Addr} {fd : FuncData} (F : Fun K "__eq__" "Program.__eq__" sProgramEq f fd) (T : PgC K mg Cp) : FnOk P w K mg base CX0 2 f fd ["self", "other"] (spPgEq K Cp) := by
  refine F.ok scProgramEq (fun vs H Q E h => ?_) (fun cdv A outer s H vs Q E hr h => ?_)
  · obtain ⟨p, rs, y, b, rfl, _⟩ := h
    rfl
  · obtain ⟨p, rs, y, b, rfl, ⟨dx, d, n, q, us, pl, x, R, up, m⟩, ho, k⟩ := h
    have mIsi := T.mIsi; have mg_Program := T.mgC
    have hu : (A.deeper (PyProof.Rows.envOfC "Program.__eq__" (defScope sProgramEq) s.heap.objs.size f cdv)).units + 65 < cLine := by
      have q := (Room.in1 (k := 0) hr).units
      exact q
    refine ⟨_, (pss_one (ps_ret (pe_and (pe_callB (k_isi K) (by rfl) mIsi (by decide +kernel) (pa_cons (pv 1) (pa_cons (pe_glob (v := .ref _) rfl mg_Program rfl) pa_nil))) (pe_and (pe_cmpR (eqD K hr) (fldK K (pv 0)) (fldK K (pv 1)) (nomark _)) (pe_one (pe_cmpR (op_eqDD hu) (fldK K (pv 0)) (fldK K (pv 1)) (nomark _))))))), ?_⟩
    rcases ho with ⟨q2, es, rfl, ⟨dy, d2, n2, q', us2, pl2, x2, R2, up2, m2⟩, rfl⟩ | ⟨ty, hy, e, rfl⟩
    · refine ⟨_, rfl, _, _, _, _, true, rfl, .own Cp, T.isi x2.o, T.ins.me, _, rfl, iteT ⟨_, rfl, p, Cp, dx, _, _, rfl, x.o, T.ins.cl, T.nN, flP_n d n q, _, rfl, q2, Cp, dy, _, _, rfl, x2.o, T.ins.cl, T.nN, flP_n d2 n2 q', ?_⟩⟩
      refine ⟨_, _, .tup x.n.sq (dpS _), .tup x2.n.sq (dpS _), shT (names_ok R), shT (names_ok R2), _, rfl, ?_⟩
      show if PyData.eqvAll _ _ = true then _ else _
      rw [eqvS]
      by_cases e : rs.map Pr.name = es.map Pr.name
      · rw [decide_eq_true e]
        refine iteT ?_
        refine ⟨_, rfl, p, Cp, dx, _, _, rfl, x.o, T.ins.cl, T.nB, flP_b d n q, _, rfl, q2, Cp, dy, _, _, rfl, x2.o, T.ins.cl, T.nB, flP_b d2 n2 q', ?_⟩
        refine ⟨d, d2, _, _, dsOf rs, dsOf es, rfl, rfl, x.b, x2.b, dpKV_of x.bo x.st R.ri, dpKV_of x2.bo x2.st R2.ri, ?_⟩
        have l : (dsOf rs).length = (dsOf es).length := by
          unfold dsOf
          rw [List.length_map, List.length_map]
          have := congrArg List.length e
          simpa using this
        rw [decide_eq_true l, Bool.true_and, eqv_dsE R2.nd (fun _ h => h) e]
        exact k
      · rw [decide_eq_false e]
        refine iteF ?_
        have e2 : ¬ pls rs = pls es := fun q => e (by rw [← pls_names, ← pls_names, q])
        rw [decide_eq_false e2] at k
        exact k
    · exact ⟨_, rfl, _, _, _, _, false, rfl, .own Cp, hy, e, _, rfl, iteF k⟩
end
end Mf
namespace Mf
open PySem L2
section
variable {P : Program} {w : World} {K : PySem.W.Frag} {mg : Str → Option Value} {base : Heap}
abbrev psD : List Str := ["_law_source_here", "_law_many"]

/-! ### _law_name -/
/-- a drawn name -/
def DrN (z : Str) : Prop := IsName z ∧ (z.cps.size = 6 → z.cps.toList.head? = some 113)
instance (z : Str) : Decidable (DrN z) := by unfold DrN; infer_instance
def spName (K : PySem.W.Frag) : Sp := fun vs H Q _ => ∃ (a t : Addr) (taken : List Str) (n : Nat), vs = [.ref a, .ref t] ∧ Src H a (n + 10) ∧ t ≠ a ∧ SqL K H t (taken.map V.str) ∧ taken.length ≤ 16 ∧
  ∀ z H', DrN z → z ∉ taken → Kp a H H' → Src H' a n → Q (.str z) H'
abbrev sName : Stmt := top 64
theorem scName : FnScope ["_law_source_here", "_law_taken", "_law_size", "_law_name_here", "_law_k", "_law_one", "_law_letter"] ["_law_source_here", "_law_taken"] (defScope sName) := ⟨rfl, rfl, rfl, by decide +kernel, rfl, by decide +kernel, by decide +kernel⟩
def zAt (c : Nat) : Str := ("z" : Str) ++ ⟨#[c]⟩
theorem zAt_name {c : Nat} (h : Low c) : IsName (zAt c) := by
  have e : (zAt c).cps.toList = [122, c] := str_add _ _
  refine ⟨?_, ?_, ?_⟩
  · rw [← Array.length_toList, e]; exact (by decide : 1 ≤ 2)
  · rw [← Array.length_toList, e]; exact (by decide : 2 ≤ 8)
  · rw [e]; intro d hd
    rcases List.mem_cons.mp hd with rfl | hd
    · unfold Low; omega
    · rw [List.mem_singleton.mp hd]; exact h
theorem zAt_dr {c : Nat} (h : Low c) : DrN (zAt c) := ⟨zAt_name h, fun l => by
  have e : (zAt c).cps.toList = [122, c] := str_add _ _
  rw [← Array.length_toList, e] at l
  exact absurd l (by show ¬ (2 = 6); decide)⟩
theorem zAt_inj {c d : Nat} (h : zAt c = zAt d) : c = d := by
  have e : (zAt c).cps.toList = (zAt d).cps.toList := by rw [h]
  have e1 : (zAt c).cps.toList = [122, c] := str_add _ _
  have e2 : (zAt d).cps.toList = [122, d] := str_add _ _
  rw [e1, e2] at e
  simpa using e
theorem sizes_at {v : Int} (h0 : 0 ≤ v) (h : v < 13) : ∃ m : Nat, atI [V.int 8, .int 4, .int 5, .int 6, .int 7, .int 1, .int 2, .int 3, .int 1, .int 2, .int 3, .int 1, .int 2] v = some (.int (m : Nat)) ∧ 1 ≤ m ∧ m ≤ 8 := by
  obtain ⟨n, rfl⟩ := Int.eq_ofNat_of_zero_le h0
  have e : ∀ n : Fin 13, atI [V.int 8, .int 4, .int 5, .int 6, .int 7, .int 1, .int 2, .int 3, .int 1, .int 2, .int 3, .int 1, .int 2] ((n.val : Nat) : Int) = some (.int (([8, 4, 5, 6, 7, 1, 2, 3, 1, 2, 3, 1, 2].getD n.val 0 : Nat))) ∧ 1 ≤ ([8, 4, 5, 6, 7, 1, 2, 3, 1, 2, 3, 1, 2].getD n.val 0) ∧ ([8, 4, 5, 6, 7, 1, 2, 3, 1, 2, 3, 1, 2].getD n.val 0) ≤ 8 := by decide +kernel
  exact ⟨_, e ⟨n, by omega⟩⟩
theorem cut_q {z : Str} (h : IsName z) (h8 : z.length < 8) : DrN (("q" : Str) ++ cutS z (some 1) none) := by
  have hz : z.cps.toList.length = z.length := Array.length_toList
  have e : (("q" : Str) ++ cutS z (some 1) none).cps.toList = 113 :: (z.cps.toList.drop (HT.sIx z.length 0 (some 1))).take (HT.sIx z.length z.length none - HT.sIx z.length 0 (some 1)) := str_add _ _
  have l : (z.cps.toList.drop (HT.sIx z.length 0 (some 1))).take (HT.sIx z.length z.length none - HT.sIx z.length 0 (some 1)) ⊆ z.cps.toList := fun c hc => List.mem_of_mem_drop (List.mem_of_mem_take hc)
  have b : ((z.cps.toList.drop (HT.sIx z.length 0 (some 1))).take (HT.sIx z.length z.length none - HT.sIx z.length 0 (some 1))).length ≤ 7 := by
    rw [List.length_take, List.length_drop, hz]; omega
  refine ⟨⟨?_, ?_, ?_⟩, fun _ => by rw [e]; rfl⟩
  · rw [← Array.length_toList, e, List.length_cons]; omega
  · rw [← Array.length_toList, e, List.length_cons]; omega
  · rw [e]; intro c hc
    rcases List.mem_cons.mp hc with rfl | hc
    · unfold Low; omega
    · exact h.2.2 c (l hc)
theorem kinds_names : ∀ z ∈ ([("read" : Str), "call", "say", "try"] : List Str), DrN z := by decide +kernel
theorem zs_fresh {taken : List Str} (h : taken.length ≤ 16) : (("abcdefghijklmnopq" : Str).cps.toList.map zAt).filter (fun z => !decide (z ∈ taken)) ≠ [] := by
  intro e
  have sub : (("abcdefghijklmnopq" : Str).cps.toList.map zAt) ⊆ taken := fun z hz => by
    refine Classical.byContradiction fun n => ?_
    have m : z ∈ (("abcdefghijklmnopq" : Str).cps.toList.map zAt).filter (fun z => !decide (z ∈ taken)) := List.mem_filter.mpr ⟨hz, by simp [n]⟩
    rw [e] at m
    cases m
  have nd : (("abcdefghijklmnopq" : Str).cps.toList.map zAt).Nodup := by
    refine List.Pairwise.map _ (fun a b (n : a ≠ b) q => n (zAt_inj q)) ?_
    show (("abcdefghijklmnopq" : Str).cps.toList).Nodup
    decide +kernel
  have l := nodup_le nd sub
  rw [List.length_map] at l
  have : ("abcdefghijklmnopq" : Str).cps.toList.length = 17 := by decide +kernel
  omega
theorem ok_name {f : Addr} {fd : FuncData} (F : Fun K "_law_name" "_law_name" sName f fd) (c_draw : Cal P w K mg base CX0 1 "_law_draw" psD spDraw) (mRange : mg "range" = none) : FnOk P w K mg base CX0 2 f fd ["_law_source_here", "_law_taken"] (spName K) := by
  refine F.ok scName (fun vs H Q E h => ?_) (fun cdv A outer s H vs Q E hr h => ?_)
  · obtain ⟨a, t, taken, n, rfl, _⟩ := h
    rfl
  · obtain ⟨a, t, taken, n, rfl, S, ta, ht, tl, k⟩ := h
    have hr_draw : Room 1 (A.deeper (PyProof.Rows.envOfC "_law_name" (defScope sName) s.heap.objs.size f cdv)) := hr
    refine ⟨_, (pss_cons (ps_set (i := 2) scName.nd rfl (by first | exact Or.inl rfl | exact Or.inr rfl) (pe_ix (ixl K) (pe_lst (pa_cons pe_int (pa_cons pe_int (pa_cons pe_int (pa_cons pe_int (pa_cons pe_int (pa_cons pe_int (pa_cons pe_int (pa_cons pe_int (pa_cons pe_int (pa_cons pe_int (pa_cons pe_int (pa_cons pe_int (pa_cons pe_int pa_nil)))))))))))))) (pe_cal c_draw hr_draw pass0 (pa_cons (pv 0) (pa_cons pe_int pa_nil))) (fun _ _ => rfl)))
      (pss_cons (ps_set (i := 3) scName.nd rfl (by first | exact Or.inl rfl | exact Or.inr rfl) (pe_join pe_str (pe_lc (own := [("_law_k", 4)]) (g := (gName 4)) (tt := tYes) rfl scName.nd (pi_range1 (by rfl) mRange (pa_cons (pv 2) pa_nil)) (blkOk_by (own := [("_law_k", 4)]) (N := ["_law_source_here", "_law_taken", "_law_size", "_law_name_here", "_law_k", "_law_one", "_law_letter"]) (sc := defScope sName) (by decide +kernel)) (fun _ _ _ _ _ => (pg_name (i := 4) scName.nd rfl (by first | exact Or.inl rfl | exact Or.inr rfl))) (fun _ _ _ _ _ => pts_nil) (fun _ _ _ _ _ => (pe_ix ix_str pe_str (pe_cal c_draw hr_draw pass0 (pa_cons (pv 0) (pa_cons pe_int pa_nil))) (fun _ _ => rfl))))))
      (C8.pss_cut (ps_if (pt_chain op_lt op_lt pe_int (pv 2) pe_int)
        (pss_one (ps_set (i := 3) scName.nd rfl (by first | exact Or.inl rfl | exact Or.inr rfl) (pe_ix (ixl K) (pe_lst (pa_cons pe_str (pa_cons pe_str (pa_cons pe_str (pa_cons pe_str (pa_cons (pe_op op_add_str pe_str (pe_slice sl_str (pv 3) (po_some pe_int) po_none)) pa_nil)))))) (pe_cal c_draw hr_draw pass0 (pa_cons (pv 0) (pa_cons pe_int pa_nil))) (fun _ _ => rfl)))) pss_nil)
      (pss_cons (ps_if (pt_cmpR (nin K) (pv 3) (pv 1) (by rfl))
        (pss_one (ps_ret (pv 3))) pss_nil)
      (pss_one (ps_ret (pe_ix (ixl K) (pe_lc (own := [("_law_one", 5)]) (g := (gName 5)) rfl scName.nd (pi_list (pe_lc (own := [("_law_letter", 6)]) (g := (gName 6)) (tt := tYes) rfl scName.nd (pi_str pe_str) (blkOk_by (own := [("_law_letter", 6)]) (N := ["_law_source_here", "_law_taken", "_law_size", "_law_name_here", "_law_k", "_law_one", "_law_letter"]) (sc := defScope sName) (by decide +kernel)) (fun _ _ _ _ _ => (pg_name (i := 6) scName.nd rfl (by first | exact Or.inl rfl | exact Or.inr rfl))) (fun _ _ _ _ _ => pts_nil) (fun _ _ _ _ _ => (pe_op op_add_str pe_str (pv 6))))) (blkOk_by (own := [("_law_one", 5)]) (N := ["_law_source_here", "_law_taken", "_law_size", "_law_name_here", "_law_k", "_law_one", "_law_letter"]) (sc := defScope sName) (by decide +kernel)) (fun _ _ _ _ _ => (pg_name (i := 5) scName.nd rfl (by first | exact Or.inl rfl | exact Or.inr rfl))) (fun _ _ _ _ _ => pts_one (pt_cmpR (nin K) (pv 5) (pv 1) (by rfl))) (fun _ _ _ _ _ => (pv 5))) pe_int (fun _ _ => rfl)))))))), ?_⟩
    refine ⟨(by show 13 ≤ sizeLine; decide), fun l hl => ⟨_, rfl, a, 13, n + 9, rfl, by decide, by decide, S.new hl, fun v H1 v0 v1 k1 S1 => ?_⟩⟩
    obtain ⟨m, hm, m1, m8⟩ := sizes_at v0 v1
    refine ⟨l, _, v, _, rfl, rfl, .of (k1 _ _ (S.ne hl) upd_same), hm, ?_⟩
    have k1 : Kp a H H1 := (Kp.new hl).trans k1
    refine ⟨⟨_, rfl⟩, _, rfl, m, rfl, by omega, by omega, fun D hD => ?_⟩
    refine lc_range (lo := 0) (n := m) (fun i H' => ∃ cs : List Nat, cs.length = i ∧ (∀ c ∈ cs, Low c) ∧ H' D = some (.lst (cs.map fun c => V.str ⟨#[c]⟩)) ∧ Kp a H1 H' ∧ Src H' a (n + 9 - i) ∧ D ≠ a) ⟨[], rfl, (by simp), upd_same, Kp.new hD, S1.new hD, S1.ne hD⟩ ?_ ?_
    · rintro i H2 hi ⟨cs, hc, low, h2, k2, S2, Da⟩
      refine ⟨rfl, yes_then ?_⟩
      refine ⟨_, rfl, a, 26, n + 8 - i, rfl, by decide, by decide, S2.mono (by omega), fun v H3 v0 v1 k3 S3 => ?_⟩
      obtain ⟨c, hcc, lc⟩ := alpha_at v0 v1
      refine ⟨_, v, c, rfl, rfl, (by show 26 ≤ sizeLine; decide), hcc, _, k3 _ _ Da h2, (by rw [List.length_map, hc]; exact Nat.lt_of_lt_of_le (by omega : i < 9) (by decide)), cs ++ [c], by rw [List.length_append, hc]; rfl, fun d hd => ?_, ?_, ?_, ?_, Da⟩
      · rcases List.mem_append.mp hd with hd | hd
        · exact low d hd
        · rw [List.mem_singleton.mp hd]; exact lc
      · rw [upd_same, List.map_append]; rfl
      · exact (k2.trans k3).mut (H := H1) hD
      · exact (S3.put Da).mono (by omega)
    · rintro H2 ⟨cs, hc, low, h2, k2, S2, Da⟩
      have e1 : (cs.map fun c => V.str ⟨#[c]⟩) = ((cs.map fun c => (⟨#[c]⟩ : Str)).map V.str) := by rw [List.map_map]; rfl
      rw [e1] at h2
      have one : ∀ y ∈ cs.map (fun c => (⟨#[c]⟩ : Str)), y.length ≤ 1 := fun y hy => by
        obtain ⟨c, _, rfl⟩ := List.mem_map.mp hy
        exact Nat.le_refl 1
      refine ⟨_, D, _, rfl, rfl, .inl (.of h2), ?_, ?_⟩
      · have q := sum_len one
        rw [List.length_map] at q ⊢
        show _ + cs.length * 0 ≤ _
        omega
      rw [join_signs]
      have nm : IsName (⟨cs.toArray⟩ : Str) := ⟨by show 1 ≤ cs.toArray.size; simp; omega, by show cs.toArray.size ≤ 8; simp; omega, fun c hc => low c (by simpa using hc)⟩
      have sz : (⟨cs.toArray⟩ : Str).cps.size = m := by show cs.toArray.size = m; simp; omega
      generalize (⟨cs.toArray⟩ : Str) = z at nm sz
      have k2 : Kp a H H2 := k1.trans k2
      refine ⟨fun σ' H' => ∃ z, σ' = [some (.ref a), some (.ref t), some (.int (m : Nat)), some (.str z), none, none, none] ∧ DrN z ∧ Kp a H H' ∧ Src H' a n, ?_, ?_⟩
      · refine ⟨_, rfl, _, _, rfl, rfl, _, rfl, ite2 (fun h3 => ?_) fun n3 => ?_⟩
        · refine ⟨_, _, rfl, rfl, _, rfl, ite2 (fun h8 => ?_) fun n8 => ?_⟩
          · have m7 : (m : Int) < 8 := of_decide_eq_true h8
            refine ⟨_, rfl, _, rfl, z, rfl, Nat.le_trans nm.len (by decide), _, _, rfl, rfl, ?_, ?_⟩
            · have q := cutS_length z (some 1) none
              have q2 := nm.len
              show 1 + _ ≤ _
              exact Nat.le_trans (by omega : _ ≤ 9) (by decide)
            refine ⟨(by show 5 ≤ sizeLine; decide), fun l2 hl2 => ⟨_, rfl, a, 5, n, rfl, by decide, by decide, (S2.mono (by omega : n + 1 ≤ n + 9 - m)).new hl2, fun v H3 v0 v1 k3 S3 => ?_⟩⟩
            obtain ⟨x, hx, hat⟩ := atI_mem (xs := [V.str "read", .str "call", .str "say", .str "try", .str (("q" : Str) ++ cutS z (some 1) none)]) v0 v1
            have hx' : ∃ y, x = .str y ∧ DrN y := by
              have kk := kinds_names
              simp only [List.mem_cons, List.not_mem_nil, or_false] at hx kk
              rcases hx with rfl | rfl | rfl | rfl | rfl
              · exact ⟨_, rfl, kk _ (by simp)⟩
              · exact ⟨_, rfl, kk _ (by simp)⟩
              · exact ⟨_, rfl, kk _ (by simp)⟩
              · exact ⟨_, rfl, kk _ (by simp)⟩
              · exact ⟨_, rfl, cut_q nm (by have : z.length = z.cps.size := rfl; omega)⟩
            obtain ⟨y, rfl, ny⟩ := hx'
            exact ⟨l2, _, v, _, rfl, rfl, .of (k3 _ _ (S2.ne hl2) upd_same), hat, y, rfl, ny, (k2.trans (Kp.new hl2)).trans k3, S3⟩
          · exact ⟨z, rfl, ⟨nm, fun l => absurd (decide_eq_true (by omega)) n8⟩, k2, S2.mono (by omega)⟩
        · exact ⟨_, rfl, iteF ⟨z, rfl, ⟨nm, fun l => absurd (decide_eq_true (by omega)) n3⟩, k2, S2.mono (by omega)⟩⟩
      · rintro σ' H3 ⟨z, rfl, nm, k3, S3⟩
        have ht3 := k3.lst ta ht
        have fl : (taken.map V.str).all flatV = true := by rw [List.all_map]; exact List.all_eq_true.mpr fun _ _ => rfl
        refine ⟨_, rfl, _, rfl, t, _, rfl, .inl ht3, rfl, fl, _, rfl, ?_⟩
        show if (!inV (.str z) (taken.map V.str)) = true then _ else _
        rw [inV_str]
        by_cases hz : z ∈ taken
        · rw [decide_eq_true hz]
          refine iteF ?_
          refine ⟨_, rfl, fun E1 hE1 => ?_⟩
          refine lc_it walk_str (fun i H' => H' E1 = some (.lst ((("abcdefghijklmnopq" : Str).cps.toList.take i).map fun c => V.str (zAt c))) ∧ Kp a H3 H' ∧ Src H' a n) ⟨upd_same, Kp.new hE1, S3.new hE1⟩ (fun _ _ _ _ => trivial) ?_ ?_
          · rintro i x H4 _ hi ⟨h4, k4, S4⟩ ⟨rfl, c, hc, rfl⟩
            refine ⟨rfl, yes_then ?_⟩
            refine ⟨_, rfl, _, _, rfl, rfl, (by show 1 + 1 ≤ sizeLine; decide), _, h4, ?_, ?_, ?_, ?_⟩
            · rw [List.length_map]
              exact Nat.lt_of_le_of_lt (List.length_take_le _ _) (Nat.lt_of_lt_of_le (show i < 17 from hi) (by decide))
            · rw [upd_same, List.take_add_one, List.map_append]
              have e : ("abcdefghijklmnopq" : Str).cps.toList[i]? = some c := by rw [Array.getElem?_toList]; exact hc
              rw [e]; rfl
            · exact k4.mut hE1
            · exact S4.put (S3.ne hE1)
          · rintro H4 ⟨h4, k4, S4⟩
            have e17 : (("abcdefghijklmnopq" : Str).cps.toList.take ("abcdefghijklmnopq" : Str).cps.size).map (fun c => V.str (zAt c)) = (("abcdefghijklmnopq" : Str).cps.toList.map zAt).map V.str := by
              rw [List.take_of_length_le (by rw [Array.length_toList]; exact Nat.le_refl _), List.map_map]; rfl
            rw [e17] at h4
            have low : ∀ z ∈ ("abcdefghijklmnopq" : Str).cps.toList.map zAt, DrN z := fun z hz => by
              obtain ⟨c, hc, rfl⟩ := List.mem_map.mp hz
              refine zAt_dr ?_
              have all : ∀ c ∈ ("abcdefghijklmnopq" : Str).cps.toList, 97 ≤ c ∧ c ≤ 122 := by decide +kernel
              exact all c hc
            have fresh := zs_fresh tl
            have len17 : (("abcdefghijklmnopq" : Str).cps.toList.map zAt).length = 17 := by decide +kernel
            generalize ("abcdefghijklmnopq" : Str).cps.toList.map zAt = zs at h4 low fresh len17
            refine ⟨E1, rfl, ⟨_, .of h4⟩, fun E2 hE2 => ?_⟩
            have n21 : E1 ≠ E2 := Ne.symm (ne_none hE2 h4)
            refine lc_it walk_list (fun i H' => H' E2 = some (.lst (((zs.take i).filter fun z => !decide (z ∈ taken)).map V.str)) ∧ Kp a H4 H' ∧ Src H' a n) ⟨upd_same, Kp.new hE2, S4.new hE2⟩ (fun i H' _ q => .of (q.2.1 _ _ (by exact ne_none hE1 (show H3 a = some _ from S3.choose_spec.choose_spec.choose_spec.1)) h4)) ?_ ?_
            · rintro i x H5 _ hi ⟨h5, k5, S5⟩ ⟨rfl, hx⟩
              rw [List.getElem?_map] at hx
              obtain ⟨y, hy, rfl⟩ := Option.map_eq_some_iff.mp hx
              have ht5 := (k4.trans k5).lst ta ht3
              have tk : zs.take (i + 1) = zs.take i ++ [y] := by rw [List.take_add_one, hy]; rfl
              refine ⟨rfl, _, rfl, _, rfl, t, _, rfl, .inl ht5, rfl, fl, _, rfl, ?_⟩
              show if (!inV (.str y) (taken.map V.str)) = true then _ else _
              rw [inV_str]
              by_cases hz : y ∈ taken
              · rw [decide_eq_true hz]
                refine iteF ⟨?_, k5, S5⟩
                rw [tk, List.filter_append, List.filter_cons_of_neg (by simp [hz]), List.filter_nil, List.append_nil]
                exact h5
              · rw [decide_eq_false hz]
                refine iteT ⟨_, rfl, _, h5, ?_, ?_, k5.mut hE2, S5.put (S4.ne hE2)⟩
                · rw [List.length_map]
                  refine Nat.lt_of_le_of_lt (Nat.le_trans (List.length_filter_le _ _) (List.length_take_le _ _)) (Nat.lt_of_lt_of_le (show i < 17 by rw [List.length_map, len17] at hi; exact hi) (by decide))
                · rw [upd_same, tk, List.filter_append, List.filter_cons_of_pos (by simp [hz]), List.filter_nil, List.map_append]
                  rfl
            · rintro H5 ⟨h5, k5, S5⟩
              rw [List.length_map, List.take_length] at h5
              have nice : ∀ z ∈ zs.filter (fun z => !decide (z ∈ taken)), DrN z ∧ z ∉ taken := fun z hz => by
                obtain ⟨m1, m2⟩ := List.mem_filter.mp hz
                exact ⟨low z m1, by simpa using m2⟩
              generalize zs.filter (fun z => !decide (z ∈ taken)) = fs at fresh nice h5
              rcases fs with _ | ⟨y, ys⟩
              · exact absurd rfl fresh
              · obtain ⟨n1, n2⟩ := nice y List.mem_cons_self
                exact ⟨E2, _, 0, .str y, rfl, rfl, .of h5, atI_nat (j := 0) rfl, k y H5 n1 n2 ((k3.trans k4).trans k5) S5⟩
        · rw [decide_eq_false hz]
          exact iteT ⟨_, rfl, k z H3 nm hz k3 S3⟩
def spNames : Sp := fun vs H Q _ => ∃ (a : Addr) (many n : Nat), vs = [.ref a, .int many] ∧ many ≤ 16 ∧ Src H a (n + 10 * many) ∧
  ∀ (p : Addr) (zs : List Str) (H' : Hp), zs.length = many → zs.Nodup → (∀ z ∈ zs, DrN z) → H p = none → H' p = some (.lst (zs.map V.str)) → Kp a H H' → Src H' a n → Q (.ref p) H'
abbrev sNames : Stmt := top 65
theorem scNames : FnScope ["_law_source_here", "_law_many", "_law_names_here", "_law_k"] ["_law_source_here", "_law_many"] (defScope sNames) := ⟨rfl, rfl, rfl, by decide +kernel, rfl, by decide +kernel, by decide +kernel⟩
theorem ok_names {f : Addr} {fd : FuncData} (F : Fun K "_law_names" "_law_names" sNames f fd) (c_name : Cal P w K mg base CX0 2 "_law_name" ["_law_source_here", "_law_taken"] (spName K)) (mRange : mg "range" = none) (mList : mg "list" = none) : FnOk P w K mg base CX0 3 f fd ["_law_source_here", "_law_many"] spNames := by
  refine F.ok scNames (fun vs H Q E h => ?_) (fun cdv A outer s H vs Q E hr h => ?_)
  · obtain ⟨a, many, n, rfl, _⟩ := h
    rfl
  · obtain ⟨a, many, n, rfl, m16, S, k⟩ := h
    have hr_name := hr
    refine ⟨_, (pss_cons (ps_set (i := 2) scNames.nd rfl (by first | exact Or.inl rfl | exact Or.inr rfl) (pe_lst pa_nil))
      (pss_cons (ps_for PassesOwn.never rfl (pi_range1 (by rfl) mRange (pa_cons (pv 1) pa_nil)) (pg_name (i := 3) scNames.nd rfl (by first | exact Or.inl rfl | exact Or.inr rfl))
        (pss_one (ps_expr (pe_bm PySem.F.plainAttrs_list PySem.F.slot_list_append PySem.F.type_list_append mt_append (pv 2) (pa_cons (pe_cal c_name hr_name pass0 (pa_cons (pv 0) (pa_cons (pe_callTy (k_list K) (by rfl) mList (by decide +kernel) (pa_cons (pv 2) pa_nil)) pa_nil))) pa_nil)))))
      (pss_one (ps_ret (pv 2))))), ?_⟩
    refine ⟨(by show 0 ≤ sizeLine; decide), fun p hp => ⟨_, rfl, many, rfl, by omega, by omega, ?_⟩⟩
    refine for_range (lo := 0) (n := many) (fun i σ H' => ∃ (zs : List Str) (vk : Option V), σ = [some (.ref a), some (.int many), some (.ref p), vk] ∧ zs.length = i ∧ zs.Nodup ∧ (∀ z ∈ zs, DrN z) ∧ H' p = some (.lst (zs.map V.str)) ∧ Kp a H H' ∧ Src H' a (n + 10 * (many - i)))
      ⟨[], none, rfl, rfl, List.nodup_nil, (by simp), upd_same, Kp.new hp, S.new hp⟩ ?_ ?_
    · rintro i σ H1 hi ⟨zs, vk, rfl, hl, nd, nm, h1, k1, S1⟩
      have pa : p ≠ a := S.ne hp
      refine ⟨_, rfl, .inl ⟨rfl, _, .of h1⟩, _, rfl, _, rfl, p, _, rfl, .inl (.of h1), fun l hl' => ?_⟩
      refine ⟨a, l, zs, n + 10 * (many - (i + 1)), rfl, (S1.new hl').mono (by omega), S1.ne hl', .of upd_same, by omega, fun z H2 nz fz k2 S2 => ?_⟩
      have h2 : H2 p = some (.lst (zs.map V.str)) := k2 _ _ pa ((Same.new hl') _ _ h1)
      refine ⟨p, _, _, rfl, rfl, h2, ?_, ?_⟩
      · rw [List.length_map]
        exact Nat.lt_of_lt_of_le (by omega : zs.length < 16) (by decide)
      · refine ⟨zs ++ [z], _, rfl, by rw [List.length_append, hl]; rfl, ?_, fun y hy => ?_, by rw [upd_same, List.map_append]; rfl, ?_, S2.put pa⟩
        · exact List.nodup_append.mpr ⟨nd, List.nodup_cons.mpr ⟨by simp, List.nodup_nil⟩, fun y hy u hu e => fz (by rw [List.mem_singleton.mp hu] at e; exact e ▸ hy)⟩
        · rcases List.mem_append.mp hy with hy | hy
          · exact nm y hy
          · rw [List.mem_singleton.mp hy]; exact nz
        · exact ((k1.trans (Kp.new hl')).trans k2).mut hp
    · rintro σ H1 ⟨zs, vk, rfl, hl, nd, nm, h1, k1, S1⟩
      exact ⟨_, rfl, k p zs H1 hl nd nm hp h1 k1 (S1.mono (by omega))⟩
end
end Mf
namespace Mf
open PySem L2
section
variable {P : Program} {w : World} {K : PySem.W.Frag} {mg : Str → Option Value} {base : Heap} {Cp C : Addr}
/-! ### _law_step -/
def GoodS (ns : List Str) (s : Step) : Prop := stepB s.1 s.2 = true ∧ (s.1 ∈ calling → s.2 ∈ ns)
theorem atI_str {zs : List Str} {v : Int} (h0 : 0 ≤ v) (h : v < zs.length) : ∃ z ∈ zs, atI (zs.map V.str) v = some (.str z) := by
  obtain ⟨x, hx, e⟩ := atI_mem (xs := zs.map V.str) h0 (by rw [List.length_map]; exact h)
  obtain ⟨z, hz, rfl⟩ := List.mem_map.mp hx
  exact ⟨z, hz, e⟩
theorem Kp.free {a t : Addr} {H H' : Hp} {n m : Nat} (x : Kp a H H') (_S : Src H a n) (h : H' t = none) (S' : Src H' a m) : H t = none := by
  cases e : H t with
  | none => rfl
  | some o =>
    have q := x t o (S'.ne h) e
    rw [h] at q; cases q
theorem calling_kinds : ∀ z ∈ calling, z ∈ kinds := by decide +kernel
theorem stepB_of {kd wd : Str} (h : kd ∈ kinds) (h2 : IsName wd) : stepB kd wd = true := by
  unfold stepB
  rw [decide_eq_true h, (nameB_iff wd).mpr h2]; rfl
end
end Mf
namespace Mf
open PySem L2
section
variable {P : Program} {w : World} {K : PySem.W.Frag} {mg : Str → Option Value} {base : Heap} {Cp C : Addr}
/-! ### a row of steps, drawn -/
theorem paired_mem {α β : Type} {R : α → β → Prop} {xs : List α} {ys : List β} (r : Paired R xs ys) : Paired (fun x y => R x y ∧ y ∈ ys) xs ys := by
  induction r with
  | nil => exact .nil
  | cons a _ ih => exact .cons ⟨a, List.mem_cons_self⟩ (paired_same ih fun _ _ q => ⟨q.1, List.mem_cons_of_mem _ q.2⟩)
theorem paired_app {α β : Type} {R : α → β → Prop} {xs xs' : List α} {ys ys' : List β} (r : Paired R xs ys) (r' : Paired R xs' ys') : Paired R (xs ++ xs') (ys ++ ys') := by
  induction r with
  | nil => exact r'
  | cons a _ ih => exact .cons a ih
/-! ### _law_program, _law_any_program -/
/-- a procedure in a list of the law's own -/
def PrL (H : Hp) (p : Addr) (r : Pr) : Prop := H p = some (.tup [.str r.name, .ref r.b]) ∧ H r.b = some (.lst (r.ts.map V.ref)) ∧ StA H r.ts r.ss
def LisP (H : Hp) (a : Addr) (ps : List Addr) (rs : List Pr) : Prop := H a = some (.lst (ps.map V.ref)) ∧ Paired (PrL H) ps rs
theorem PrL.same {H H' : Hp} {p : Addr} {r : Pr} (x : PrL H p r) (h : Same H H') : PrL H' p r := ⟨h _ _ x.1, h _ _ x.2.1, x.2.2.same h⟩
theorem PrL.kp {H H' : Hp} {p a : Addr} {r : Pr} {n : Nat} (x : PrL H p r) (h : Kp a H H') (S : Src H a n) : PrL H' p r := ⟨h.noL S _ _ noL_tup x.1, h _ _ (refs_ne S x.2.1) x.2.1, x.2.2.sameN (h.noL S)⟩
theorem LisP.same {H H' : Hp} {a : Addr} {ps : List Addr} {rs : List Pr} (x : LisP H a ps rs) (h : Same H H') : LisP H' a ps rs := ⟨h _ _ x.1, paired_same x.2 fun _ _ q => q.same h⟩
theorem LisP.kp {H H' : Hp} {a b : Addr} {ps : List Addr} {rs : List Pr} {n : Nat} (x : LisP H a ps rs) (h : Kp b H H') (S : Src H b n) : LisP H' a ps rs := ⟨h _ _ (refs_ne S x.1) x.1, paired_same x.2 fun _ _ q => q.kp h S⟩
/-- a list at p changes, that is no body here -/
theorem PrL.put {H : Hp} {p q : Addr} {r : Pr} {o : HO} {xs : List V} (x : PrL H q r) (h : H p = some (.lst xs)) (n : r.b ≠ p) : PrL (upd H p o) q r :=
  ⟨by rw [upd_ne (fun e => by have := x.1; rw [e, h] at this; cases this)]; exact x.1, by rw [upd_ne n]; exact x.2.1, x.2.2.sameN (SameN.refl.put h)⟩
theorem rightP_of {rs : List Pr} {ns : List Str} (e : rs.map Pr.name = ns) (nd : ns.Nodup) (l : ns.length ≤ 16) (ne : ns ≠ []) (nm : ∀ z ∈ ns, IsName z) (b : ∀ r ∈ rs, r.ss.length ≤ 12 ∧ ∀ s ∈ r.ss, GoodS ns s) : RightP rs := by
  subst e
  refine ⟨by simpa using l, fun e => ne (by rw [e]; rfl), nd, fun r hr => ⟨nm _ (List.mem_map.mpr ⟨r, hr, rfl⟩), ?_, fun s hs => Nat.le_trans (stepB_name ((b r hr).2 s hs).1).len (by decide)⟩, fun r hr s hs => ((b r hr).2 s hs).2⟩
  unfold bodyB
  rw [decide_eq_true (b r hr).1, Bool.true_and]
  exact List.all_eq_true.mpr fun s hs => ((b r hr).2 s hs).1
end
end Mf
/-! sorted(xs) of a list of texts of any length. -/
namespace Mf
open PySem PySem.Spec PyProof.Rows L2
section
variable {P : Program} {w : World} {A : Around} {E : Value → Shared → Prop} {s : Shared}
theorem sorted_lst {a : Addr} {its : List Value} {xs : List Str} {Q : Value → Shared → Prop} (hl : s.heap.IsList a its.toArray) (hS : StrsAre its xs) (few : its.length ≤ sizeLine)
    (hQ : ∀ (h' : Heap) (s' : Shared) p (out : Array Value) (c : Nat) (ys : List Str), (∀ b o, s.heap.get? b = some o → h'.get? b = some o) → (∀ b (o : Obj), h'.get? b = some o → s'.heap.get? b = some o) → s'.gens = s.gens → s'.os = s.os → h'.objs.size ≤ p →
      s'.heap.get? p = some (seqObj "list" out c) → StrsAre out.toList ys → sortedS ys = true → ys.Perm xs → Q (.ref p) s') :
    wpAny (model P w) A (call (.builtin "sorted") [.ref a]) Q E s := by
  refine Calls.call_function_entry kind_sorted plain_sorted entry_sorted (args_sorted1 _) ?_
  unfold Builtin.«sorted»
  refine wpAny_bind (m := checkCount "sorted" 1 1 _) (wpAny_pure ?_)
  obtain ⟨o, ho, hc, n, hd⟩ := hl
  refine wpAny_bind (wpAny_collect_seq (hsz := by simpa using few) a (.inl rfl) ho hc hd fun h' hk => ?_)
  have len := (strs_val hS).1
  have el : its.toArray.toList = its := by simp
  rw [el]
  refine wpAny_bind (wpAny_newList ?_ few)
  have hoL : (h'.push (seqObj "list" its.toArray 0)).get? h'.objs.size = some (seqObj "list" its.toArray 0) := Heap.get?_push_size _ rfl
  refine wpAny_bind (wpAny_holding (wpAny_call_entry slot_list_sort ⟨_, hoL, rfl⟩ entry_list_sort (list_sort_treeKAny strKind_oneLt hoL hS.keysOf (fun v₁ v₂ rest e => keyKind_strs (by rw [← e]; exact hS)) few fun st' hp hs => ⟨_, rfl, ?_⟩) (args_list_sort _)))
  obtain ⟨ys, g1', g2, g3⟩ := sorted_out_str hS hp hs
  obtain ⟨c, hc⟩ := sortedHeap_at (vs := its) (out := (arrOf st').map (·.2)) hoL
  refine wpAny_pure ⟨_, rfl, hQ h' _ h'.objs.size _ c ys hk (fun b u q => ?_) rfl rfl (Nat.le_refl _) hc g1' g3 g2⟩
  have lt := Heap.lt_size q
  show (sortedHeap (h'.push (seqObj "list" its.toArray 0)) h'.objs.size its _).get? b = some u
  rw [sortedHeap_old (Nat.ne_of_lt lt) (by rw [size_push']; exact Nat.lt_succ_of_lt lt)]
  exact Heap.get?_push_of_some _ q
end
section
variable {X : Cx}
/-- sorted(xs) of a list of texts -/
def rSortedL (K : PySem.W.Frag) : List V → Hp → VK → Prop := fun vs H Q => ∃ (a : Addr) (xs : List Str), vs = [V.ref a] ∧ SqL K H a (xs.map V.str) ∧
  ∀ (ys : List Str) (p : Addr), ys.Perm xs → sortedS ys = true → H p = none → Q (.ref p) (upd H p (.lst (ys.map V.str)))
theorem cr_sortedL : CallR X (.builtin "sorted") (rSortedL X.K) := by
  intro pins s σ H vs us Q I r h
  obtain ⟨a, xs, rfl, hs, q⟩ := h
  obtain ⟨its, rv, hl, hz⟩ := I.list hs
  rw [Vals.ref1 r]
  have hlen0 := rv.length
  rw [List.length_map] at hlen0
  rw [List.length_map] at hz
  refine sorted_lst hl.isList rv.strs (by rw [← hlen0]; exact hz) fun h' s' p out c ys k0 k g o hp hg hS so pm => ?_
  have I1 := I.kept (t' := s.toks) k0
  have hn : H p = none := I1.hok.fresh hp
  have few : (ys.map V.str).length ≤ sizeLine := by rw [List.length_map, pm.length_eq]; exact hz
  have J : Inv X pins σ (upd H p (.lst (ys.map V.str))) { ({ s with heap := h' } : Shared) with heap := s'.heap, gens := s'.gens, drawn := s'.drawn, toks := s'.toks } :=
    I1.call (ch := []) (Un.laid k hp hn) (I1.hok.laid k hp ⟨few, out.toList, c, vals_of_strs hS, hg⟩) (by rw [g]; exact I.bare) fun _ z => nomatch z
  have e : s' = { s with heap := s'.heap, gens := s'.gens, drawn := s'.drawn, toks := s'.toks } := by
    rcases s' with ⟨_, _, _, _, _⟩
    cases o
    rfl
  rw [e]
  exact ⟨.ref p, _, J, rfl, q ys p pm so hn⟩
theorem k_sortedL (K : PySem.W.Frag) (h : X.K = K := by rfl) : CallR X (.builtin "sorted") (rSortedL K) := h ▸ cr_sortedL
end
end Mf
namespace Mf
open PySem L2
section
variable {P : Program} {w : World} {K : PySem.W.Frag} {mg : Str → Option Value} {base : Heap} {Cp C : Addr}
/-! ### _law_copy -/
theorem pls_snoc {rs : List Pr} {r : Pr} : pls (rs ++ [r]) = pls rs ++ [(r.name, r.ss)] := by unfold pls; rw [List.map_append]; rfl
theorem pls_take {rs : List Pr} {i : Nat} : pls (rs.take i) = (pls rs).take i := by unfold pls; rw [List.map_take]
def readsC (x : List Pc) : List Str := (x.map fun r => readsIn r.2).flatten
theorem readsOf_pls (rs : List Pr) : readsOf rs = readsC (pls rs) := by unfold readsOf readsC pls; rw [List.map_map]; rfl
theorem pls_mem {rs : List Pr} {r : Pr} (h : r ∈ rs) : (r.name, r.ss) ∈ pls rs := List.mem_map.mpr ⟨r, h, rfl⟩
theorem rightP_pls {rs es : List Pr} (e : pls es = pls rs) (R : RightP rs) : RightP es := by
  have l : es.length = rs.length := by have := congrArg List.length e; simpa [pls] using this
  have n : es.map Pr.name = rs.map Pr.name := by rw [← pls_names, ← pls_names, e]
  have back : ∀ r ∈ es, ∃ q ∈ rs, q.name = r.name ∧ q.ss = r.ss := fun r hr => by
    have m := pls_mem hr
    rw [e] at m
    obtain ⟨q, hq, he⟩ := List.mem_map.mp m
    exact ⟨q, hq, congrArg Prod.fst he, congrArg Prod.snd he⟩
  refine ⟨by rw [l]; exact R.few, fun z => R.ne (List.length_eq_zero_iff.mp (by rw [← l, z]; rfl)), by rw [n]; exact R.nd, fun r hr => ?_, fun r hr s hs hc => ?_⟩
  · obtain ⟨q, hq, h1, h2⟩ := back r hr
    have := R.ri q hq
    unfold Right at this ⊢
    rw [← h1, ← h2]; exact this
  · obtain ⟨q, hq, h1, h2⟩ := back r hr
    rw [n]
    exact R.ca q hq s (by rw [h2]; exact hs) hc
theorem paired_has {α β : Type} {R : α → β → Prop} {xs : List α} {ys : List β} (r : Paired R xs ys) {y : β} (h : y ∈ ys) : ∃ x, R x y := by
  induction r with
  | nil => cases h
  | cons a _ ih =>
    rcases List.mem_cons.mp h with q | q
    · exact ⟨_, q ▸ a⟩
    · exact ih q
end
end Mf
namespace Mf
open PySem L2
section
variable {P : Program} {w : World} {K : PySem.W.Frag} {mg : Str → Option Value} {base : Heap} {Cp C : Addr}
/-! ### the methods of Program -/
structure PgOps (P : Program) (w : World) (K : PySem.W.Frag) (mg : Str → Option Value) (base : Heap) (Cp : Addr) : Prop where
  eq : CalM P w K mg base CX0 2 Cp "__eq__" ["self", "other"] (spPgEq K Cp)
  get : CalM P w K mg base CX0 1 Cp "__getitem__" ["self", "name"] (spPgGet K Cp)
  has : CalM P w K mg base CX0 1 Cp "__contains__" ["self", "name"] (spPgHas K Cp)
  len : CalM P w K mg base CX0 1 Cp "__len__" ["self"] (spPgLen K Cp)
  ne : PySem.W.findIn K (.ref Cp) "__ne__" = some (some (.builtin "object.__ne__"))
theorem pls_get {es rs : List Pr} (e : pls es = pls rs) {i : Nat} {r : Pr} (h : es[i]? = some r) : ∃ q, rs[i]? = some q ∧ q.name = r.name ∧ q.ss = r.ss := by
  have h1 : (pls es)[i]? = some (r.name, r.ss) := by unfold pls; rw [List.getElem?_map, h]; rfl
  rw [e] at h1
  unfold pls at h1
  rw [List.getElem?_map] at h1
  obtain ⟨q, hq, he⟩ := Option.map_eq_some_iff.mp h1
  exact ⟨q, hq, congrArg Prod.fst he, congrArg Prod.snd he⟩
theorem pls_len {es rs : List Pr} (e : pls es = pls rs) : es.length = rs.length := by have := congrArg List.length e; simpa [pls] using this
theorem pls_nms {es rs : List Pr} (e : pls es = pls rs) : es.map Pr.name = rs.map Pr.name := by rw [← pls_names, ← pls_names, e]
end
end Mf
namespace Mf
open PySem L2
section
variable {P : Program} {w : World} {K : PySem.W.Frag} {mg : Str → Option Value} {base : Heap} {Cp C : Addr}
/-! ### _law_some_program -/
theorem paired_take {α β : Type} {R : α → β → Prop} {xs : List α} {ys : List β} (r : Paired R xs ys) : ∀ n, Paired R (xs.take n) (ys.take n) := by
  induction r with
  | nil => intro n; rw [List.take_nil, List.take_nil]; exact .nil
  | cons a _ ih =>
    intro n
    cases n with
    | zero => exact .nil
    | succ n => exact .cons a (ih n)
theorem paired_drop {α β : Type} {R : α → β → Prop} {xs : List α} {ys : List β} (r : Paired R xs ys) : ∀ n, Paired R (xs.drop n) (ys.drop n) := by
  induction r with
  | nil => intro n; rw [List.drop_nil, List.drop_nil]; exact .nil
  | cons a h ih =>
    intro n
    cases n with
    | zero => exact .cons a h
    | succ n => exact ih n
end
end Mf
/-! A walk over a list or a tuple; a def that is called with fewer arguments than it has; what is reached along steps. -/
namespace Mf
open PySem PySem.Spec PyProof.Rows L2
theorem same_SqL {K : PySem.W.Frag} {t : Addr} {H H' : Hp} {xs : List V} (x : Same H H') (h : SqL K H t xs) : SqL K H' t xs := by
  rcases h with (h | ⟨o, h⟩) | h
  · exact .inl (.inl (x _ _ h))
  · exact .inl (.inr ⟨o, x _ _ h⟩)
  · exact .inr h
theorem same_Seq {K : PySem.W.Frag} {t : Addr} {H H' : Hp} {xs : List V} (x : Same H H') (h : SqL K H t xs ∨ SqT K H t xs) : SqL K H' t xs ∨ SqT K H' t xs := h.imp (same_SqL x) x.tup
section
variable {X : Cx} {tg : Expr}
/-- a walk over a list or a tuple -/
def iSeq (K : PySem.W.Frag) (tl : TE) : TI := fun σ H R => tl σ H fun x H1 => ∃ a xs, x = .ref a ∧ (SqL K H1 a xs ∨ SqT K H1 a xs) ∧ ∀ (J : It) (G : Hp → Prop), Walk J xs.length G (YAt xs) → (∀ H', Same H1 H' → G H') → R J H1
theorem pi_seq {l : Expr} {tl : TE} (hl : PE X l tl) : PI X tg l (iSeq X.K tl) := by
  refine ⟨fun pins s σ H R I h => ?_⟩
  refine thn (hl.run pins s σ H _ I h) fun v s1 ⟨x, H1, I1, r1, q1⟩ => ?_
  obtain ⟨a, xs, e, hq | hq, q⟩ := q1
  · subst e
    cases r1
    obtain ⟨its, rv, p, hz⟩ := I1.list hq
    refine wpAny_pyIter_list p.isList ?_
    refine ⟨s1.heap.objs.size, [s1.heap.objs.size], _, _, H1, rfl, I1.kept (t' := s1.toks) fun b o e => Heap.get?_push_of_some _ e, turn_list a _, ⟨_, Heap.get?_push_size _ rfl, rfl, rfl⟩, fun b hb => ?_, q _ _ walk_list fun H' s => same_SqL s hq⟩
    have e : b = s1.heap.objs.size := by simpa using hb
    subst e
    exact I1.fpOk (Nat.le_refl _) (I1.hok.fresh (Nat.le_refl _))
  · subst e
    cases r1
    obtain ⟨its, rv, p, hz⟩ := I1.tuple hq
    refine wpAny_pyIter_tuple (show s1.heap.IsTuple a its.toArray from p) ?_
    refine ⟨s1.heap.objs.size, [s1.heap.objs.size], _, _, H1, rfl, I1.kept (t' := s1.toks) fun b o e => Heap.get?_push_of_some _ e, turn_tuple a _, ⟨_, Heap.get?_push_size _ rfl, rfl, rfl⟩, fun b hb => ?_, q _ _ walk_tup fun H' s => s.tup hq⟩
    have e : b = s1.heap.objs.size := by simpa using hb
    subst e
    exact I1.fpOk (Nat.le_refl _) (I1.hok.fresh (Nat.le_refl _))
theorem piS (K : PySem.W.Frag) {l : Expr} {tl : TE} (hl : PE X l tl) (h : X.K = K := by rfl) : PI X tg l (iSeq K tl) := h ▸ pi_seq hl
end
/-! ### name = {..} on one line, the name a local -/
section
variable {X : Cx}
theorem ps_setDc {i : Nat} {y : Str} {py : Pos} {kx vx tg iter : Expr} {ifs : List Expr} {scope : Scope} {own : List (Str × Nat)} {pos spos : Pos} {wi : TI} {g : TG} {tt : TT} {tk tv : TE} (hc : X.calm = true) (hN : X.N.Nodup) (hy : X.N[i]? = some y) (hyl : X.env.scope.names.lookup y = some .local)
    (hsw : swapsWith (.DictComp kx vx [⟨tg, iter, ifs, 0⟩] scope pos) (some (.Name y py)) spos.line X.env = pure true) (hi : PI X tg iter wi) (ok : BlkOk X.N X.env.scope scope own)
    (hg : ∀ (s : Shared) (H : Hp) (C : Addr) (cl : List (Str × Addr)) (fp : List Addr), PG (X.blk s H scope (compEnvC scope cl C X.env) fp) tg g) (ht : ∀ (s : Shared) (H : Hp) (C : Addr) (cl : List (Str × Addr)) (fp : List Addr), PTs (X.blk s H scope (compEnvC scope cl C X.env) fp) ifs tt)
    (hk : ∀ (s : Shared) (H : Hp) (C : Addr) (cl : List (Str × Addr)) (fp : List Addr), PE (X.blk s H scope (compEnvC scope cl C X.env) fp) kx tk)
    (he : ∀ (s : Shared) (H : Hp) (C : Addr) (cl : List (Str × Addr)) (fp : List Addr), PE (X.blk s H scope (compEnvC scope cl C X.env) fp) vx tv) (hs : ∀ x, foldedSetIterable iter X.env x = pure x := by intro _; rfl) :
    PS X (.Assign [.Name y py] (.DictComp kx vx [⟨tg, iter, ifs, 0⟩] scope pos) spos) (tAsg (tDc wi g tt tk tv (own.map (·.2))) (gName i)) := by
  refine ⟨fun pins s σ H D I h => ?_⟩
  rw [exec_Assign_Name_used _ _ _ _ hsw]
  refine wpAny_bind (wpAny_standAt (wpAny_bind ?_))
  show wpAny _ X.A (do let _ ← comprehension (.DictComp kx vx [⟨tg, iter, ifs, 0⟩] scope pos) scope X.env (firstIterPos [⟨tg, iter, ifs, 0⟩] pos) newDict false (eval iter X.env) (some (assign (.Name y py) X.env))) _ _ s
  have h : tDc wi g tt tk tv (own.map (·.2)) σ H (fun x H1 => gName i x σ H1 D.nx) := h
  refine wpAny_bind (thn (dc_core (Qf := fun _ s' => SP X pins D .next s') hc hN I hi ok hg ht hk he hs h fun L C s' m H' I' q hn f => ?_) fun _ s' hq => wpAny_pure (wpAny_pure hq))
  show wpAny _ _ (assign (.Name y py) X.env (.ref L)) _ _ _
  refine wpAny_assign_Name (store_ok2 (v := V.ref L) I' hN hy (.inl hyl) rfl (fun s2 I2 ⟨a, sb, ha⟩ => ?_) (.inr hyl))
  obtain ⟨f0, f1, f2, f3, f4, f5⟩ := f
  have haC : C ≠ a := by
    rcases ha with z | z
    · rw [z]; exact f1
    · exact fun e => f4 y a z e.symm
  refine ⟨m, hn.sameBut sb haC, fun h3 sb3 => ?_⟩
  exact ⟨_, H', I2.turned (t' := s2.toks) (fun b o hb e => (sb3.2 b hb).trans e) f0 f1 f3 f4 f5, q⟩
theorem sw_trueD {kx vx : Expr} {gs : List Comprehension} {scope : Scope} {pos py : Pos} {y : Str} {l : Nat} {env : Env} (hk : env.scope.kind = .function) (hy : env.scope.names.lookup y = some .local) (hl : (py.line == pos.line) = true)
    (ha : (scope.names.any fun (n, k) => n == y && (k == .local || k == .cell)) = false) : swapsWith (.DictComp kx vx gs scope pos) (some (.Name y py)) l env = pure true := by
  have ky : env.kindOf y = some .local := hy
  have hb : env.blockKind = .function := by unfold Env.blockKind; rw [hk]; rfl
  unfold swapsWith
  simp only [hb, ky, ha, Expr.pos, hl]
  rfl
end
/-- a def with default values, in which nothing is raised -/
theorem funD_ok {P : Program} {w : World} {K : PySem.W.Frag} {mg : Str → Option Value} {base : Heap} {x qual : Str} {params : Arguments} {body : List Stmt} {scope : Scope} {dvs : List V} {kws : List (Str × V)} {f : Addr} {fd : FuncData} {N ps : List Str} {k : Nat} {sp : Sp} (F : FunD K x qual params body scope dvs kws f fd) (S : FnScope N ps scope) (len : ∀ vs H Q E, sp vs H Q E → vs.length = ps.length)
    (hbody : ∀ (cdv : Value) (A : Around) (outer : List Env) (s : Shared) (H : Hp) (vs : List V) (Q : VK) (E : XK), Room k (A.deeper (envOfC qual scope s.heap.objs.size f cdv)) → sp vs H Q E →
      ∃ t, PSs (cxOf CX0 P w K mg base N qual scope f cdv A outer s H E).nox body t ∧ t { nx := fun _ H' => Q .non H', rt := Q } (start N vs) H) : FnOk P w K mg base CX0 (k + 1) f fd ps sp :=
  F.ok S len fun cdv A outer s H vs Q E hr hsp =>
    let ⟨t, h, q⟩ := hbody cdv A outer s H vs Q E hr hsp
    ⟨t, h.nox, q⟩
/-! ### a list of truths -/
theorem lc_bools {J : It} {G : Hp → Prop} {xs : List V} {fs : List Bool} (w : Walk J xs.length G (YAt xs)) {g : TG} {tt : TT} {te : TE} {vs : List Nat} {σ : L2.St} {H0 : Hp} {D : Addr} {Qd : Hp → Prop} (hl : fs.length = xs.length) (few : fs.length ≤ 4000) (hD : H0 D = none) (hG : ∀ H, Same H0 H → G H)
    (hs : ∀ (i : Nat) (x : V) (b : Bool) (H' : Hp) (Qe : VK) (Pf : Hp → Prop), xs[i]? = some x → fs[i]? = some b → Same H0 H' → (∀ H3, Same H' H3 → Qe (.bl b) H3) → g x (wipe σ vs) H' fun σ2 H2 => wipe σ2 vs = wipe σ vs ∧ tt σ2 H2 fun c H3 => if c = true then te σ2 H3 Qe else Pf H3)
    (hd : ∀ H, Same H0 H → H D = some (.lst (fs.map V.bl)) → Qd H) :
    ∃ W : Nat → Nat → Hp → Prop, (∃ m, W 0 m (upd H0 D (.lst []))) ∧ ∀ i m H, W i m H →
      (J.stop i H ∧ Qd H) ∨ (J.go i H ∧ ∃ Nx : Hp → Prop, (∀ H', Nx H' → ∃ m', m' < m ∧ W (i + 1) m' H') ∧ ∀ x H', J.yld i H x H' → g x (wipe σ vs) H' fun σ2 H2 => wipe σ2 vs = wipe σ vs ∧ tt σ2 H2 fun b H3 =>
        if b = true then te σ2 H3 fun y H4 => ∃ acc, H4 D = some (.lst acc) ∧ acc.length < sizeLine ∧ Nx (upd H4 D (.lst (acc ++ [y]))) else Nx H3) := by
  refine lc_it w (fun i H' => Same H0 H' ∧ H' D = some (.lst ((fs.take i).map V.bl))) ⟨Same.new hD, upd_same⟩ (fun i H' _ q => hG _ q.1) ?_ fun H' ⟨s1, h1⟩ => hd H' s1 (by rw [← hl, List.take_length] at h1; exact h1)
  rintro i x _ H1 hi ⟨s1, h1⟩ ⟨rfl, hx⟩
  have hb := List.getElem?_eq_getElem (show i < fs.length by omega)
  refine hs i x fs[i] H1 _ _ hx hb s1 fun H3 s3 => ⟨_, s3 _ _ h1, ?_, (s1.trans s3).mut hD, ?_⟩
  · rw [List.length_map]
    exact Nat.lt_of_le_of_lt (List.length_take_le _ _) (Nat.lt_of_lt_of_le (by omega : i < 4000) (by decide))
  · rw [upd_same, List.take_add_one, hb, List.map_append]; rfl
/-- all of them true -/
theorem lc_yes {J : It} {G : Hp → Prop} {xs : List V} (w : Walk J xs.length G (YAt xs)) {g : TG} {tt : TT} {te : TE} {vs : List Nat} {σ : L2.St} {H0 : Hp} {D : Addr} {Qd : Hp → Prop} (few : xs.length ≤ 4000) (hD : H0 D = none) (hG : ∀ H, Same H0 H → G H)
    (hs : ∀ (i : Nat) (x : V) (H' : Hp) (Qe : VK) (Pf : Hp → Prop), xs[i]? = some x → Same H0 H' → (∀ H3, Same H' H3 → Qe (.bl true) H3) → g x (wipe σ vs) H' fun σ2 H2 => wipe σ2 vs = wipe σ vs ∧ tt σ2 H2 fun c H3 => if c = true then te σ2 H3 Qe else Pf H3)
    (hd : ∀ (H : Hp) (fs : List Bool), Same H0 H → H D = some (.lst (fs.map V.bl)) → fs.all id = true → Qd H) :
    ∃ W : Nat → Nat → Hp → Prop, (∃ m, W 0 m (upd H0 D (.lst []))) ∧ ∀ i m H, W i m H →
      (J.stop i H ∧ Qd H) ∨ (J.go i H ∧ ∃ Nx : Hp → Prop, (∀ H', Nx H' → ∃ m', m' < m ∧ W (i + 1) m' H') ∧ ∀ x H', J.yld i H x H' → g x (wipe σ vs) H' fun σ2 H2 => wipe σ2 vs = wipe σ vs ∧ tt σ2 H2 fun b H3 =>
        if b = true then te σ2 H3 fun y H4 => ∃ acc, H4 D = some (.lst acc) ∧ acc.length < sizeLine ∧ Nx (upd H4 D (.lst (acc ++ [y]))) else Nx H3) := by
  refine lc_bools (fs := List.replicate xs.length true) w (by simp) (by simpa using few) hD hG (fun i x b H' Qe Pf hx hb s1 k => ?_) fun H s1 h1 => hd H _ s1 h1 (by simp)
  have e : b = true := by
    have := List.mem_of_getElem? hb
    exact (List.mem_replicate.mp this).2
  subst e
  exact hs i x H' Qe Pf hx s1 k
/-! ### a def called with its last parameters left to their defaults -/
structure CalD (P : Program) (w : World) (K : PySem.W.Frag) (mg : Str → Option Value) (base : Heap) (CX : CXT) (k : Nat) (x : Str) (ps : List Str) (sp : Sp) (dvs : List V) : Prop where
  ex : ∃ (f : Addr) (fd : FuncData) (ds : List Value), FnOk P w K mg base CX k f fd ps sp ∧ mg x = some (.ref f) ∧ PySem.W.keepIn K (.ref f) = true ∧ Binds K fd ps ds ∧ Vals dvs ds
theorem pe_cald {X : Cx} {CX : CXT} {k : Nat} {x : Str} {ps : List Str} {sp : Sp} {dvs : List V} {E : XK} {e : Expr} {es : List Expr} {t : TA} {p pos : Pos} (c : CalD X.prog X.w X.K X.mg X.base CX k x ps sp dvs) (hr : Room k X.A) (hx : Passes CX X E) (ha : PA X (e :: es) t) (hg : Gl X x := by rfl)
    (hdb : (x == ("__debug__" : Str)) = false := by decide) (he : starEach (e :: es) X.env = (false, eval e X.env) :: starEach es X.env := by rfl) (hpl : (backTo pos (starEach es X.env)).any (·.1) = false := by rfl) :
    PE X (.Call (.Name x p) (e :: es) [] pos) (tCall sp dvs E t) := by
  obtain ⟨f, fd, ds, F, m, kp, b, v⟩ := c.ex
  exact pe_call F hr hg m kp b v hx ha hdb he hpl

/-- x in t, t a tuple of data -/
def rInDT (K : PySem.W.Frag) : R2 := fun x y H Q => ∃ d ds, Dp K H x d ∧ Dp K H y (.tuple ds) ∧ SeqAt.shaped d = true ∧ SeqAt.shaped (.tuple ds) = true ∧ Q (.bl (ds.any fun z => PyData.eqv z d)) H
theorem op_inDT {X : Cx} (hu : X.A.units + 65 < cLine) : OpR X (compareOp .In) (rInDT X.K) := by
  intro pins s σ H x y v u Q I rx ry h
  obtain ⟨d, ds, hd, he, sd, se, q⟩ := h
  obtain ⟨as, r1⟩ := Dp.reads I d x v hd rx
  obtain ⟨bs, r2⟩ := Dp.reads I (.tuple ds) y u he ry
  exact SeqAt.in_tuple_reads r2 r1 (SeqAt.canLay_of_shaped se) (SeqAt.canLay_of_shaped sd) (room_in_shaped sd hu) ⟨.bl _, H, I, rfl, q⟩
theorem inDT {X : Cx} (K : PySem.W.Frag) {k : Nat} (hr : Room (k + 1) X.A) (h : X.K = K := by rfl) : OpR X (compareOp .In) (rInDT K) := h ▸ op_inDT (Room.in1 hr).units
/-- a def with keyword-only parameters, called with keywords ks -/
structure CalK (P : Program) (w : World) (K : PySem.W.Frag) (mg : Str → Option Value) (base : Heap) (CX : CXT) (k : Nat) (x : Str) (ps : List Str) (sp : Sp) (n : Nat) (ks : List Str) (gV : List V → List V → List V) : Prop where
  ex : ∃ (f : Addr) (fd : FuncData) (g : List Value → List Value → List Value), FnOk P w K mg base CX k f fd ps sp ∧ mg x = some (.ref f) ∧ PySem.W.keepIn K (.ref f) = true ∧ KBn K fd ps n ks g gV
theorem pe_calk {X : Cx} {CX : CXT} {k n : Nat} {x : Str} {ps ks : List Str} {sp : Sp} {gV : List V → List V → List V} {E : XK} {e : Expr} {es : List Expr} {kws : List Keyword} {t tk : TA} {p pos : Pos} (c : CalK X.prog X.w X.K X.mg X.base CX k x ps sp n ks gV) (hr : Room k X.A) (hx : Passes CX X E) (ha : PA X (e :: es) t) (hkw : PK X kws tk) (hg : Gl X x := by rfl)
    (hall : (backToKw pos (keywordEach kws X.env)).all (·.1.isSome) = true := by rfl) (hks : (backToKw pos (keywordEach kws X.env)).filterMap (·.1) = ks := by rfl)
    (hdb : (x == ("__debug__" : Str)) = false := by decide) (he : starEach (e :: es) X.env = (false, eval e X.env) :: starEach es X.env := by rfl)
    (hpl : ((backTo pos (starEach (e :: es) X.env)).any (·.1) || (backToKw pos (keywordEach kws X.env)).any (·.1.isNone)) = false := by rfl) :
    PE X (.Call (.Name x p) (e :: es) kws pos) (tCallN n ks.length sp gV E t tk) := by
  obtain ⟨f, fd, g, F, m, kp, b⟩ := c.ex
  exact pe_callN F hr hg m kp b hx ha hkw hall hks hdb he hpl
/-- C(..) of a class that stands in a local name -/
theorem pe_mkl {X : Cx} {CX : CXT} {k : Nat} {x y : Str} {C : Addr} {ps : List Str} {sp : Sp} {dvs : List V} {E : XK} {e : Expr} {es : List Expr} {t : TA} {p pos : Pos} {te : TE} (c : CalC X.prog X.w X.K X.mg X.base CX k x C ps sp dvs) (hr : Room (k + 1) X.A) (hx : Passes CX X E) (hn : PE X (.Name y p) te) (ha : PA X (e :: es) t)
    (he : starEach (e :: es) X.env = (false, eval e X.env) :: starEach es X.env := by rfl) (hpl : (backTo pos (starEach es X.env)).any (·.1) = false := by rfl) :
    PE X (.Call (.Name y p) (e :: es) [] pos) (fun σ H Q => te σ H fun v H1 => v = .ref C ∧ tMake C sp dvs E t σ H1 Q) := by
  obtain ⟨f, fd, ds, M, F, mm, b, v⟩ := c.ex
  refine ⟨fun pins s σ H Q I h => ?_⟩
  refine wpAny_Call_Name_kw (thn (hn.run pins s σ H _ I h) fun u s1 ⟨w, H1, I1, rw, ew, q⟩ => ?_)
  subst ew
  obtain rfl : u = Value.ref C := rw
  refine PySem.W.callWith_K (h₀ := X.base) I1.ok.mod.kin M.kp (thn (ha.run pos pins s1 σ H1 _ I1 q) fun us s2 ⟨vs, H2, I2, r, q⟩ => ⟨I2.kIn, ?_⟩) he hpl
  exact run_make M F hr b v hx I2 r q
/-! ### what is reached along steps -/
/-- a step of y, of one of the kinds, names z -/
def Suc (x : List Pc) (kds : List Str) (y z : Str) : Prop := ∃ ss, (y, ss) ∈ x ∧ ∃ s ∈ ss, s.1 ∈ kds ∧ s.2 = z
inductive Rch (S : Str → Str → Prop) (out : Str → Prop) (st : Str → Prop) : Str → Prop
  | base {z : Str} (h : st z) (n : ¬ out z) : Rch S out st z
  | step {y z : Str} (h : Rch S out st y) (s : S y z) (n : ¬ out z) : Rch S out st z
theorem Rch.sub {S : Str → Str → Prop} {out st : Str → Prop} {fl : Str → Prop} (h1 : ∀ z, st z → ¬ out z → fl z) (h2 : ∀ y z, fl y → S y z → ¬ out z → fl z) : ∀ {z}, Rch S out st z → fl z := fun h => by
  induction h with
  | base h n => exact h1 _ h n
  | step _ s n ih => exact h2 _ _ ih s n
theorem Rch.mono {S : Str → Str → Prop} {out st st' : Str → Prop} (h : ∀ z, st z → ¬ out z → Rch S out st' z) {z : Str} (r : Rch S out st z) : Rch S out st' z := r.sub h fun _ _ a b c => .step a b c
theorem pc_one : ∀ {x : List Pc} {y : Str} {ss tt : List Step}, (x.map (·.1)).Nodup → (y, ss) ∈ x → (y, tt) ∈ x → tt = ss
  | [], _, _, _, _, h, _ => by cases h
  | a :: x, y, ss, tt, nd, h, g => by
    rw [List.map_cons, List.nodup_cons] at nd
    rcases List.mem_cons.mp h with h1 | h1
    · rcases List.mem_cons.mp g with g1 | g1
      · rw [← h1] at g1
        exact (Prod.mk.injEq .. ▸ g1).2
      · exact absurd (List.mem_map.mpr ⟨(y, tt), g1, by rw [← h1]⟩) nd.1
    · rcases List.mem_cons.mp g with g1 | g1
      · exact absurd (List.mem_map.mpr ⟨(y, ss), h1, by rw [← g1]⟩) nd.1
      · exact pc_one nd.2 h1 g1
theorem Suc.one {x : List Pc} {kds : List Str} {y z : Str} {ss : List Step} (nd : (x.map (·.1)).Nodup) (h : (y, ss) ∈ x) : Suc x kds y z ↔ ∃ s ∈ ss, s.1 ∈ kds ∧ s.2 = z :=
  ⟨fun ⟨tt, h2, q⟩ => by rw [pc_one nd h h2] at q; exact q, fun q => ⟨ss, h, q⟩⟩

/-! ### all but lists and dicts stays -/
def NoLD (o : HO) : Prop := (∀ xs, o ≠ .lst xs) ∧ ∀ k, o ≠ .dK k
def SameT (H H' : Hp) : Prop := ∀ b o, NoLD o → H b = some o → H' b = some o
theorem SameT.refl {H : Hp} : SameT H H := fun _ _ _ h => h
theorem SameT.of {H H' : Hp} (x : Same H H') : SameT H H' := fun b o _ h => x b o h
theorem SameT.trans {H H1 H2 : Hp} (x : SameT H H1) (y : SameT H1 H2) : SameT H H2 := fun b o n h => y b o n (x b o n h)
theorem SameT.putL {H H1 : Hp} {p : Addr} {xs : List V} {o : HO} (x : SameT H H1) (h : H1 p = some (.lst xs)) : SameT H (upd H1 p o) := fun b u n e => by
  have q := x b u n e
  rw [upd_ne (fun z => by rw [z, h] at q; exact n.1 xs (Option.some.inj q).symm)]
  exact q
theorem SameT.putD {H H1 : Hp} {p : Addr} {xs : List (Key × V)} {o : HO} (x : SameT H H1) (h : H1 p = some (.dK xs)) : SameT H (upd H1 p o) := fun b u n e => by
  have q := x b u n e
  rw [upd_ne (fun z => by rw [z, h] at q; exact n.2 xs (Option.some.inj q).symm)]
  exact q
theorem noLD_tup {xs : List V} : NoLD (.tup xs) := ⟨(fun _ h => nomatch h), (fun _ h => nomatch h)⟩
theorem SameT.tup {K : PySem.W.Frag} {t : Addr} {H H' : Hp} {xs : List V} (x : SameT H H') (h : SqT K H t xs) : SqT K H' t xs := by
  rcases h with (h | ⟨o, h⟩) | h
  · exact .inl (.inl (x _ _ noLD_tup h))
  · exact .inl (.inr ⟨o, x _ _ ⟨(fun _ h => nomatch h), (fun _ h => nomatch h)⟩ h⟩)
  · exact .inr h
theorem take_not {α : Type} {xs : List α} {i : Nat} {z : α} (nd : xs.Nodup) (h : xs[i]? = some z) : ¬ z ∈ xs.take i := fun m => by
  have e : xs.take (i + 1) = xs.take i ++ [z] := by rw [List.take_add_one, h]; rfl
  have n : (xs.take (i + 1)).Nodup := (List.take_sublist _ _).nodup nd
  rw [e, List.nodup_append] at n
  exact n.2.2 z m z (List.mem_singleton.mpr rfl) rfl
end Mf
namespace Mf
open PySem L2
section
variable {P : Program} {w : World} {K : PySem.W.Frag} {mg : Str → Option Value} {base : Heap} {C : Addr}
abbrev psSO : List Str := ["self", "other"]
/-- what stands on the right of an == -/
def Oth (K : PySem.W.Frag) (C : Addr) (H : Hp) (y : V) (ms : List Str) (b : Bool) : Prop := (∃ q ns, y = .ref q ∧ NSet C H q ns ∧ b = decide (ms = ns)) ∨ ∃ t, TyX K H y t ∧ PySem.W.kitOne K t (.ref C) = some false ∧ b = false
def spNsEq (K : PySem.W.Frag) (C : Addr) : Sp := fun vs H Q _ => ∃ (p : Addr) (ms : List Str) (y : V) (b : Bool), vs = [.ref p, y] ∧ NSet C H p ms ∧ Oth K C H y ms b ∧ Q (.bl b) H
abbrev sNameSetEq : Stmt := inClass (top 10) 1
theorem scNameSetEq : FnScope ["self", "other"] ["self", "other"] (defScope sNameSetEq) := ⟨rfl, rfl, rfl, by decide +kernel, rfl, by decide +kernel, by decide +kernel⟩
theorem ok_nsEq {f : Addr} {fd : FuncData} (F : Fun K "__eq__" "NameSet.__eq__" sNameSetEq f fd) (T : NsC K mg C) : FnOk P w K mg base CX0 1 f fd psSO (spNsEq K C) := by
  refine F.ok scNameSetEq (fun vs H Q E h => ?_) (fun cdv A outer s H vs Q E hr h => ?_)
  · obtain ⟨p, ms, y, b, rfl, _⟩ := h
    rfl
  · obtain ⟨p, ms, y, b, rfl, hN, ho, k⟩ := h
    have mIsi := T.mIsi; have mg_NameSet := T.mgC
    refine ⟨_, (pss_one (ps_ret (pe_and (pe_callB (k_isi K) (by rfl) mIsi (by decide +kernel) (pa_cons (pv 1) (pa_cons (pe_glob (v := .ref _) rfl mg_NameSet rfl) pa_nil))) (pe_one (pe_cmpR (eqD K hr) (fldK K (pv 0)) (fldK K (pv 1)) (nomark _)))))), ?_⟩
    obtain ⟨dx, t, h1, h2, up, few, ok⟩ := hN
    rcases ho with ⟨q, ns, rfl, ⟨dy, u, g1, g2, up2, few2, ok2⟩, rfl⟩ | ⟨ty, hy, e, rfl⟩
    · refine ⟨_, rfl, _, _, _, _, true, rfl, .own C, T.isi g1, T.ins.me, _, rfl, iteT ⟨_, rfl, p, C, dx, _, _, rfl, h1, T.ins.cl, T.nM, flM_get t, _, rfl, q, C, dy, _, _, rfl, g1, T.ins.cl, T.nM, flM_get u, ?_⟩⟩
      refine ⟨_, _, .tup (.of h2) (dpS ms), .tup (.of g2) (dpS ns), shT ok, shT ok2, ?_⟩
      show Q (.bl (PyData.eqvAll _ _)) H
      rw [eqvS]
      exact k
    · exact ⟨_, rfl, _, _, _, _, false, rfl, .own C, hy, e, _, rfl, iteF k⟩

def spNsLe (C : Addr) : Sp := fun vs H Q _ => ∃ (p q : Addr) (ms ns : List Str), vs = [.ref p, .ref q] ∧ NSet C H p ms ∧ NSet C H q ns ∧ ∀ H', Same H H' → Q (.bl (ms.all fun z => decide (z ∈ ns))) H'
abbrev sNameSetLe : Stmt := inClass (top 10) 2
theorem scNameSetLe : FnScope ["self", "other", "name"] ["self", "other"] (defScope sNameSetLe) := ⟨rfl, rfl, rfl, by decide +kernel, rfl, by decide +kernel, by decide +kernel⟩
theorem ok_nsLe {f : Addr} {fd : FuncData} (F : Fun K "__le__" "NameSet.__le__" sNameSetLe f fd) (T : NsC K mg C) : FnOk P w K mg base CX0 1 f fd psSO (spNsLe C) := by
  refine F.ok scNameSetLe (fun vs H Q E h => ?_) (fun cdv A outer s H vs Q E hr h => ?_)
  · obtain ⟨p, q, ms, ns, rfl, _⟩ := h
    rfl
  · obtain ⟨p, q, ms, ns, rfl, ⟨dx, t, h1, h2, up, few, ok⟩, ⟨dy, u, g1, g2, up2, few2, ok2⟩, k⟩ := h
    have mAll := T.mAll
    refine ⟨_, (pss_one (ps_ret (pe_callB (k_all K) (by rfl) mAll (by decide +kernel) (pa_cons (pe_lc (own := [("name", 2)]) (g := (gName 2)) (tt := tYes) rfl scNameSetLe.nd (pi_tup (fldK K (pv 0))) (blkOk_by (own := [("name", 2)]) (N := ["self", "other", "name"]) (sc := defScope sNameSetLe) (by decide +kernel)) (fun _ _ _ _ _ => (pg_name (i := 2) scNameSetLe.nd rfl (by first | exact Or.inl rfl | exact Or.inr rfl))) (fun _ _ _ _ _ => pts_nil) (fun _ _ _ _ _ => (pe_cmpR (oin K) (pv 2) (fldK K (pv 1)) (by rfl)))) pa_nil)))), ?_⟩
    refine ⟨_, rfl, p, C, dx, _, _, rfl, h1, T.ins.cl, T.nM, flM_get t, t, rfl, ⟨_, .of h2⟩, fun D hD => ?_⟩
    refine lc_it walk_tup (fun i H' => Same H H' ∧ H' D = some (.lst ((ms.take i).map fun z => V.bl (decide (z ∈ ns))))) ⟨Same.new hD, upd_same⟩ (fun i H' _ q => q.1.tup (.of h2)) ?_ ?_
    · rintro i x H1 _ hi ⟨s1, h3⟩ ⟨rfl, hx⟩
      rw [List.getElem?_map] at hx
      obtain ⟨z, hz, rfl⟩ := Option.map_eq_some_iff.mp hx
      rw [List.length_map] at hi
      refine ⟨rfl, yes_then ?_⟩
      refine ⟨_, rfl, _, rfl, q, C, dy, _, _, rfl, s1 _ _ g1, T.ins.cl, T.nM, flM_get u, u, _, rfl, .inr (.of (s1 _ _ g2)), rfl, flat_strs ns, _, h3, ?_, s1.mut hD, ?_⟩
      · rw [List.length_map]
        exact Nat.lt_of_le_of_lt (List.length_take_le _ _) (Nat.lt_of_lt_of_le (by omega : i < 4000) (by decide))
      · rw [upd_same, List.take_add_one, hz]
        show some (HO.lst (_ ++ [V.bl (inV (.str z) (ns.map V.str))])) = _
        rw [inV_str, List.map_append]
        rfl
    · rintro H1 ⟨s1, h3⟩
      have e : ((ms.take (ms.map V.str).length).map fun z => V.bl (decide (z ∈ ns))) = (ms.map fun z => decide (z ∈ ns)).map V.bl := by rw [List.length_map, List.take_length, List.map_map]; rfl
      rw [e] at h3
      refine ⟨D, _, rfl, .of h3, ?_⟩
      rw [List.all_map]
      exact k H1 s1
/-- what an operator that makes a set gives -/
def spNsOp (C : Addr) (g : List Str → List Str → Str → Prop) : Sp := fun vs H Q _ => ∃ (p q : Addr) (ms ns : List Str), vs = [.ref p, .ref q] ∧ NSet C H p ms ∧ NSet C H q ns ∧ ms.length + ns.length < 4000 ∧ ∀ r rs H', NSet C H' r rs → (∀ z, z ∈ rs ↔ g ms ns z) → Same H H' → Q (.ref r) H'
abbrev gOr : List Str → List Str → Str → Prop := fun ms ns z => z ∈ ms ∨ z ∈ ns
abbrev gAnd : List Str → List Str → Str → Prop := fun ms ns z => z ∈ ms ∧ z ∈ ns
abbrev gSub : List Str → List Str → Str → Prop := fun ms ns z => z ∈ ms ∧ z ∉ ns
abbrev sNameSetOr : Stmt := inClass (top 10) 4
theorem scNameSetOr : FnScope ["self", "other"] ["self", "other"] (defScope sNameSetOr) := ⟨rfl, rfl, rfl, by decide +kernel, rfl, by decide +kernel, by decide +kernel⟩
theorem ok_nsOr {f : Addr} {fd : FuncData} (F : Fun K "__or__" "NameSet.__or__" sNameSetOr f fd) (T : NsC K mg C) (mk : CalN P w K mg base C []) : FnOk P w K mg base CX0 3 f fd psSO (spNsOp C gOr) := by
  refine F.ok scNameSetOr (fun vs H Q E h => ?_) (fun cdv A outer s H vs Q E hr h => ?_)
  · obtain ⟨p, q, ms, ns, rfl, _⟩ := h
    rfl
  · obtain ⟨p, q, ms, ns, rfl, ⟨dx, t, h1, h2, up, few, ok⟩, ⟨dy, u, g1, g2, up2, few2, ok2⟩, fw, k⟩ := h
    refine ⟨_, (pss_one (ps_ret (pe_mkc mk hr pass0 (pa_cons (pe_op op_catA (fldK K (pv 0)) (fldK K (pv 1))) pa_nil)))), ?_⟩
    have two : ∀ z ∈ ms ++ ns, PyData.strOk z = true := fun z hz => (List.mem_append.mp hz).elim (ok z) (ok2 z)
    refine ⟨_, rfl, p, C, dx, _, _, rfl, h1, T.ins.cl, T.nM, flM_get t, _, rfl, q, C, dy, _, _, rfl, g1, T.ins.cl, T.nM, flM_get u, ?_⟩
    refine ⟨t, u, ms.map V.str, ns.map V.str, rfl, rfl, .of h2, .of g2, ?_⟩
    have few3 : (ms ++ ns).length < 4000 := by rw [List.length_append]; exact fw
    refine ⟨Nat.le_trans (by rw [List.length_map, List.length_map]; omega : _ ≤ 4000) (by decide), fun e => ?_, fun e e2 => ?_, fun e e2 r nr => ?_⟩
    · obtain rfl := List.map_eq_nil_iff.mp e
      refine make_ns (.tup g2) few2 ok2 fun r rs H' n m _ s => k r rs H' n (fun z => ?_) s
      rw [m z]; simp
    · obtain rfl := List.map_eq_nil_iff.mp e2
      refine make_ns (.tup h2) few ok fun r rs H' n m _ s => k r rs H' n (fun z => ?_) s
      rw [m z]; simp
    · rw [← List.map_append]
      refine make_ns (.tup upd_same) few3 two fun r2 rs H' n m _ s => k r2 rs H' n (fun z => ?_) ((Same.new nr).trans s)
      rw [m z, List.mem_append]

def spNsIn (C : Addr) : Sp := fun vs H Q _ => ∃ (p : Addr) (ms : List Str) (z : Str), vs = [.ref p, .str z] ∧ NSet C H p ms ∧ Q (.bl (decide (z ∈ ms))) H
abbrev sNameSetContains : Stmt := inClass (top 10) 7
theorem scNameSetContains : FnScope ["self", "name"] ["self", "name"] (defScope sNameSetContains) := ⟨rfl, rfl, rfl, by decide +kernel, rfl, by decide +kernel, by decide +kernel⟩
theorem ok_nsIn {f : Addr} {fd : FuncData} (F : Fun K "__contains__" "NameSet.__contains__" sNameSetContains f fd) (T : NsC K mg C) : FnOk P w K mg base CX0 1 f fd ["self", "name"] (spNsIn C) := by
  refine F.ok scNameSetContains (fun vs H Q E h => ?_) (fun cdv A outer s H vs Q E hr h => ?_)
  · obtain ⟨p, ms, z, rfl, _⟩ := h
    rfl
  · obtain ⟨p, ms, z, rfl, ⟨dx, t, h1, h2, up, few, ok⟩, k⟩ := h
    refine ⟨_, (pss_one (ps_ret (pe_cmpR (oin K) (pv 1) (fldK K (pv 0)) (by rfl)))), ?_⟩
    refine ⟨_, rfl, _, rfl, p, C, dx, _, _, rfl, h1, T.ins.cl, T.nM, flM_get t, t, _, rfl, .inr (.of h2), rfl, flat_strs ms, ?_⟩
    show Q (.bl (inV (.str z) (ms.map V.str))) H
    rw [inV_str]
    exact k
structure NsO (P : Program) (w : World) (K : PySem.W.Frag) (mg : Str → Option Value) (base : Heap) (C : Addr) : Prop where
  eq : CalM P w K mg base CX0 1 C "__eq__" psSO (spNsEq K C)
  le : CalM P w K mg base CX0 1 C "__le__" psSO (spNsLe C)
  or_ : CalM P w K mg base CX0 3 C "__or__" psSO (spNsOp C gOr)
  has : CalM P w K mg base CX0 1 C "__contains__" ["self", "name"] (spNsIn C)
  ne : PySem.W.findIn K (.ref C) "__ne__" = some (some (.builtin "object.__ne__"))
  sf : PySem.W.selfFirst K C = true
theorem NsC.below {H : Hp} {q : Addr} {ms : List Str} (T : NsC K mg C) (h : NSet C H q ms) : NotBelow K C (.ref q) H :=
  let ⟨_, _, h1, _⟩ := h
  ⟨.ref C, T.isi h1, by simp [PySem.W.notFirst]⟩
theorem NSet.ins {H : Hp} {q : Addr} {ms : List Str} (h : NSet C H q ms) : ∃ dx fs, H q = some (.ins C dx fs) := let ⟨dx, _, h1, _⟩ := h; ⟨dx, _, h1⟩
end
end Mf
/-! The paths that paths_from finds, in their order. -/
namespace Mf
open PySem L2
abbrev Pa := Str × List Str
def bodyOf (x : List Pc) (y : Str) : List Step := ((x.find? fun p => decide (p.1 = y)).map (·.2)).getD []
theorem bodyOf_mem {x : List Pc} (nd : (x.map (·.1)).Nodup) {y : Str} {ss : List Step} (h : (y, ss) ∈ x) : bodyOf x y = ss := by
  unfold bodyOf
  induction x with
  | nil => cases h
  | cons p x ih =>
    rw [List.map_cons, List.nodup_cons] at nd
    rcases List.mem_cons.mp h with e | h
    · rw [← e, List.find?_cons_of_pos (p := fun p : Pc => decide (p.1 = y)) (decide_eq_true rfl)]; rfl
    · have ne : p.1 ≠ y := fun e => nd.1 (by rw [e]; exact List.mem_map.mpr ⟨_, h, rfl⟩)
      rw [List.find?_cons_of_neg (p := fun p : Pc => decide (p.1 = y)) (by simpa using ne)]
      exact ih nd.2 h
theorem bodyOf_no {x : List Pc} {y : Str} (h : ¬ y ∈ x.map (·.1)) : bodyOf x y = [] := by
  unfold bodyOf
  rw [List.find?_eq_none.mpr fun p hp => by
    have : p.1 ≠ y := fun e => h (List.mem_map.mpr ⟨p, hp, e⟩)
    simpa using this]
  rfl
def putP (kds out : List Str) (path : List Str) (acc : List Pa) (s : Step) : List Pa :=
  if s.1 ∈ kds ∧ ¬ s.2 ∈ out ∧ ¬ s.2 ∈ acc.map (·.1) then acc ++ [(s.2, path ++ [s.2])] else acc
def visP (kds out : List Str) (path : List Str) : List Pa → List Step → List Pa
  | acc, [] => acc
  | acc, s :: ss => visP kds out path (putP kds out path acc s) ss
def growP (body : Str → List Step) (kds out : List Str) : Nat → Nat → List Pa → List Pa
  | 0, _, acc => acc
  | n + 1, j, acc => match acc[j]? with
    | none => acc
    | some e => growP body kds out n (j + 1) (visP kds out e.2 acc (body e.1))
def startP (out sts : List Str) : List Pa := (sts.filter fun z => decide (¬ z ∈ out)).map fun z => (z, [z])
def pathsN (x : List Pc) (kds out sts : List Str) : List Pa := growP (bodyOf x) kds out 17 0 (startP out sts)
theorem growP_end {body : Str → List Step} {kds out : List Str} {n j : Nat} {acc : List Pa} (h : acc.length ≤ j) : growP body kds out n j acc = acc := by
  cases n with
  | zero => rfl
  | succ n => unfold growP; rw [List.getElem?_eq_none h]
theorem growP_step {body : Str → List Step} {kds out : List Str} {n j : Nat} {acc : List Pa} {e : Pa} (h : acc[j]? = some e) : growP body kds out (n + 1) j acc = growP body kds out n (j + 1) (visP kds out e.2 acc (body e.1)) := by
  show (match acc[j]? with | none => acc | some e => _) = _
  rw [h]
theorem putP_pre {kds out path : List Str} {acc : List Pa} (s : Step) : ∃ e, putP kds out path acc s = acc ++ e := by
  unfold putP
  split
  · exact ⟨_, rfl⟩
  · exact ⟨[], (List.append_nil _).symm⟩
theorem visP_pre {kds out path : List Str} : ∀ (ss : List Step) (acc : List Pa), ∃ e, visP kds out path acc ss = acc ++ e
  | [], acc => ⟨[], (List.append_nil _).symm⟩
  | s :: ss, acc => by
    obtain ⟨e1, h1⟩ := putP_pre (kds := kds) (out := out) (path := path) (acc := acc) s
    obtain ⟨e2, h2⟩ := visP_pre ss (putP kds out path acc s)
    exact ⟨e1 ++ e2, by show visP kds out path (putP kds out path acc s) ss = _; rw [h2, h1, List.append_assoc]⟩
theorem growP_pre {body : Str → List Step} {kds out : List Str} : ∀ (n j : Nat) (acc : List Pa), ∃ e, growP body kds out n j acc = acc ++ e
  | 0, j, acc => ⟨[], (List.append_nil _).symm⟩
  | n + 1, j, acc => by
    cases h : acc[j]? with
    | none => exact ⟨[], by unfold growP; rw [h, List.append_nil]⟩
    | some e =>
      rw [growP_step h]
      obtain ⟨e1, h1⟩ := visP_pre (kds := kds) (out := out) (path := e.2) (body e.1) acc
      obtain ⟨e2, h2⟩ := growP_pre (body := body) (kds := kds) (out := out) n (j + 1) (visP kds out e.2 acc (body e.1))
      exact ⟨e1 ++ e2, by rw [h2, h1, List.append_assoc]⟩
/-- what holds of the start and stays along the steps holds of all that is found -/
theorem putP_all {kds out path : List Str} {acc : List Pa} {s : Step} {p : Pa → Prop} (h : ∀ e ∈ acc, p e) (hs : s.1 ∈ kds → ¬ s.2 ∈ out → p (s.2, path ++ [s.2])) : ∀ e ∈ putP kds out path acc s, p e := by
  unfold putP
  split
  · rename_i c
    intro e he
    rcases List.mem_append.mp he with q | q
    · exact h e q
    · rw [List.mem_singleton.mp q]; exact hs c.1 c.2.1
  · exact h
theorem visP_all {kds out path : List Str} {p : Pa → Prop} : ∀ {ss : List Step} {acc : List Pa}, (∀ e ∈ acc, p e) → (∀ s ∈ ss, s.1 ∈ kds → ¬ s.2 ∈ out → p (s.2, path ++ [s.2])) → ∀ e ∈ visP kds out path acc ss, p e
  | [], acc, h, _ => h
  | s :: ss, acc, h, hs => visP_all (ss := ss) (putP_all h (hs s List.mem_cons_self)) fun s' h' => hs s' (List.mem_cons_of_mem _ h')
theorem growP_all {body : Str → List Step} {kds out : List Str} {p : Pa → Prop} (hs : ∀ e, p e → ∀ s ∈ body e.1, s.1 ∈ kds → ¬ s.2 ∈ out → p (s.2, e.2 ++ [s.2])) : ∀ {n j : Nat} {acc : List Pa}, (∀ e ∈ acc, p e) → ∀ e ∈ growP body kds out n j acc, p e
  | 0, j, acc, h => h
  | n + 1, j, acc, h => by
    cases e : acc[j]? with
    | none => unfold growP; rw [e]; exact h
    | some y =>
      rw [growP_step e]
      exact growP_all hs (visP_all h (hs y (h y (List.mem_of_getElem? e))))
/-! ### what fails -/
def firstRead (br : List Str) (ss : List Step) : Option Str := (ss.find? fun s => decide (s.1 = ("read" : Str)) && decide (s.2 ∈ br)).map fun s => s.2
def failIn (x : List Pc) (br : List Str) : List Pa → Option (List Str × Str)
  | [] => none
  | e :: es => match firstRead br (bodyOf x e.1) with
    | some d => some (e.2, d)
    | none => failIn x br es
def requiring : List Str := ["call"]
def failN (x : List Pc) (y : Str) (br out : List Str) : Option (List Str × Str) := failIn x br (pathsN x requiring out [y])
end Mf
namespace Mf
open PySem L2
section
variable {P : Program} {w : World} {K : PySem.W.Frag} {mg : Str → Option Value} {base : Heap} {Cp C : Addr}
/-! ### paths_from -/
/-- a dict of paths: its keys, each with a tuple of texts -/
structure Pth (K : PySem.W.Frag) (H : Hp) (kvs : List (Key × V)) (ac : List Pa) : Prop where
  p : Paired (fun (kv : Key × V) (e : Pa) => kv.1 = Sum.inr e.1 ∧ ∃ u : Addr, kv.2 = .ref u ∧ SqT K H u (e.2.map V.str)) kvs ac
  b : ∀ e ∈ ac, e.2 ≠ [] ∧ e.2.length ≤ ac.length
theorem Pth.len {H : Hp} {kvs : List (Key × V)} {ac : List Pa} (h : Pth K H kvs ac) : kvs.length = ac.length := Paired.length h.p
theorem Pth.sameT {H H' : Hp} {kvs : List (Key × V)} {ac : List Pa} (h : Pth K H kvs ac) (s : SameT H H') : Pth K H' kvs ac :=
  ⟨paired_same h.p fun _ _ ⟨a, u, b, c⟩ => ⟨a, u, b, s.tup c⟩, h.b⟩
theorem Pth.same {H H' : Hp} {kvs : List (Key × V)} {ac : List Pa} (h : Pth K H kvs ac) (s : Same H H') : Pth K H' kvs ac := h.sameT (.of s)
theorem Pth.e {H : Hp} {kvs : List (Key × V)} {ac : List Pa} (h : Pth K H kvs ac) : kvs.map (·.1) = (ac.map (·.1)).map Sum.inr := by
  have := h.p
  clear h
  induction this with
  | nil => rfl
  | cons a _ ih => rw [List.map_cons, List.map_cons, List.map_cons, ih, a.1]
theorem Pth.keys {H : Hp} {kvs : List (Key × V)} {ac : List Pa} (h : Pth K H kvs ac) : (kvs.map fun kv => kV kv.1) = (ac.map (·.1)).map V.str := by
  have e : (kvs.map fun kv => kV kv.1) = (kvs.map (·.1)).map kV := by rw [List.map_map]; rfl
  rw [e, h.e, List.map_map]; rfl
theorem StA.sameT {H H' : Hp} {ts : List Addr} {ss : List (Str × Str)} (x : StA H ts ss) (h : SameT H H') : StA H' ts ss := by
  induction x with
  | nil => exact .nil
  | cons a _ ih => exact .cons (h _ _ noLD_tup a) ih
theorem Pth.none {H : Hp} {kvs : List (Key × V)} {ac : List Pa} (h : Pth K H kvs ac) {z : Str} (n : ¬ z ∈ ac.map (·.1)) : valV kvs (Sum.inr z) = none := by
  cases e : valV kvs (Sum.inr z) with
  | none => rfl
  | some v =>
    exfalso
    unfold valV at e
    obtain ⟨kv, h1, h2⟩ := Option.map_eq_some_iff.mp e
    have h3 : kv.1 ∈ kvs.map (·.1) := List.mem_map.mpr ⟨kv, List.mem_of_find?_eq_some h1, rfl⟩
    have h4 : kv.1 = Sum.inr z := of_decide_eq_true (List.find?_some (p := fun kv : Key × V => decide (kv.1 = Sum.inr z)) h1)
    rw [h.e, h4] at h3
    obtain ⟨y, hy, e2⟩ := List.mem_map.mp h3
    cases e2
    exact n hy
theorem paired_val {S : (Key × V) → Pa → Prop} {kvs : List (Key × V)} {ac : List Pa} (p : Paired S kvs ac) (hk : ∀ kv e, S kv e → kv.1 = Sum.inr e.1) (nd : (ac.map (·.1)).Nodup) {e : Pa} (he : e ∈ ac) : ∃ kv, valV kvs (Sum.inr e.1) = some kv.2 ∧ S kv e := by
  unfold valV
  induction p with
  | nil => cases he
  | @cons kv y kvs ac a _ ih =>
    rw [List.map_cons, List.nodup_cons] at nd
    rcases List.mem_cons.mp he with q | q
    · subst q
      rw [List.find?_cons_of_pos (p := fun z : Key × V => decide (z.1 = Sum.inr e.1)) (decide_eq_true (hk _ _ a))]
      exact ⟨kv, rfl, a⟩
    · have ne : ¬ kv.1 = Sum.inr e.1 := fun z => by
        rw [hk _ _ a] at z
        have z : y.1 = e.1 := Sum.inr.inj z
        exact nd.1 (by rw [z]; exact List.mem_map.mpr ⟨e, q, rfl⟩)
      rw [List.find?_cons_of_neg (p := fun z : Key × V => decide (z.1 = Sum.inr e.1)) (by simpa using ne)]
      exact ih nd.2 q
theorem Pth.at {H : Hp} {kvs : List (Key × V)} {ac : List Pa} (h : Pth K H kvs ac) (nd : (ac.map (·.1)).Nodup) {e : Pa} (he : e ∈ ac) : ∃ u : Addr, valV kvs (Sum.inr e.1) = some (.ref u) ∧ SqT K H u (e.2.map V.str) := by
  obtain ⟨kv, h1, _, u, h2, h3⟩ := paired_val h.p (fun _ _ z => z.1) nd he
  exact ⟨u, by rw [h1, h2], h3⟩
theorem Pth.some {H : Hp} {kvs : List (Key × V)} {ac : List Pa} (h : Pth K H kvs ac) (nd : (ac.map (·.1)).Nodup) {z : Str} (n : z ∈ ac.map (·.1)) : ∃ u : Addr, valV kvs (Sum.inr z) = some (.ref u) := by
  obtain ⟨e, he, rfl⟩ := List.mem_map.mp n
  obtain ⟨u, h1, _⟩ := h.at nd he
  exact ⟨u, h1⟩
theorem Pth.snoc {H : Hp} {kvs : List (Key × V)} {ac : List Pa} {ys : List Str} {z : Str} {u : Addr} (h : Pth K H kvs ac) (n : ¬ z ∈ ac.map (·.1)) (sq : SqT K H u (ys.map V.str)) (ne : ys ≠ []) (l : ys.length ≤ ac.length + 1) : Pth K H (putK kvs (Sum.inr z) (.ref u)) (ac ++ [(z, ys)]) := by
  rw [putK_new _ (h.none n)]
  refine ⟨paired_snoc h.p ⟨rfl, u, rfl, sq⟩, fun e he => ?_⟩
  rw [List.length_append, List.length_singleton]
  rcases List.mem_append.mp he with q | q
  · exact ⟨(h.b e q).1, Nat.le_trans (h.b e q).2 (Nat.le_succ _)⟩
  · rw [List.mem_singleton.mp q]
    exact ⟨ne, l⟩
def spPaths (K : PySem.W.Frag) (Cp C : Addr) : Sp := fun vs H Q _ => ∃ (p nl kn lo : Addr) (rs : List Pr) (sts kds out : List Str), vs = [.ref p, .ref nl, .ref kn, .ref lo] ∧ Prg K Cp H p rs ∧ (SqL K H nl (sts.map V.str) ∨ SqT K H nl (sts.map V.str)) ∧ sts.Nodup ∧ (∀ z ∈ sts, z ∈ rs.map Pr.name) ∧
  SqT K H kn (kds.map V.str) ∧ (∀ z ∈ kds, z ∈ calling) ∧ NSet C H lo out ∧
  ∀ (d : Addr) (kvs : List (Key × V)) (ac : List Pa) (H' : Hp), Same H H' → H d = none → H' d = some (.dK kvs) → Pth K H' kvs ac → ac = pathsN (pls rs) kds out sts → (ac.map (·.1)).Nodup → ac.length ≤ 16 → (∀ z ∈ ac.map (·.1), z ∈ rs.map Pr.name) → Q (.ref d) H'
theorem suc_in {rs : List Pr} {kds : List Str} (R : RightP rs) (kc : ∀ z ∈ kds, z ∈ calling) {y z : Str} (s : Suc (pls rs) kds y z) : z ∈ rs.map Pr.name := by
  obtain ⟨ss, h, s, hs, hk, rfl⟩ := s
  unfold pls at h
  obtain ⟨r, hr, e⟩ := List.mem_map.mp h
  cases e
  exact R.ca r hr s hs (kc _ hk)
theorem rch_in {rs : List Pr} {kds sts : List Str} {out : Str → Prop} (R : RightP rs) (kc : ∀ z ∈ kds, z ∈ calling) (hs : ∀ z ∈ sts, z ∈ rs.map Pr.name) {z : Str} (h : Rch (Suc (pls rs) kds) out (· ∈ sts) z) : z ∈ rs.map Pr.name :=
  h.sub (fl := fun z => z ∈ rs.map Pr.name) (fun z a _ => hs z a) fun _ _ _ s _ => suc_in R kc s
theorem few_in {rs : List Pr} {ks : List Str} (R : RightP rs) (nd : ks.Nodup) (h : ∀ z ∈ ks, z ∈ rs.map Pr.name) : ks.length ≤ 16 := by
  have a := nodup_le nd h
  have b := R.few
  rw [List.length_map] at a
  omega
def muP (i : Nat) : L2.St → Hp → Nat := fun σ _ => match σ[i]? with
  | some (some (.int v)) => 17 - v.toNat
  | _ => 0
/-- what the walk of paths_from keeps: the dict and the list of what was found -/
structure PfI (K : PySem.W.Frag) (H0 H : Hp) (D F : Addr) (rs : List Pr) (ac : List Pa) : Prop where
  d : ∃ kvs, H D = some (.dK kvs) ∧ Pth K H kvs ac
  f : H F = some (.lst ((ac.map (·.1)).map V.str))
  nd : (ac.map (·.1)).Nodup
  inn : ∀ z ∈ ac.map (·.1), z ∈ rs.map Pr.name
  s : Same H0 H
abbrev sPaths_from : Stmt := top 35
theorem scPaths_from : FnScope ["program", "names", "kinds", "left_out", "paths", "found", "at", "caller", "name", "kind", "callee"] ["program", "names", "kinds", "left_out"] (defScope sPaths_from) := ⟨rfl, rfl, rfl, by decide +kernel, rfl, by decide +kernel, by decide +kernel⟩
set_option maxHeartbeats 1000000 in
theorem ok_paths {f : Addr} {fd : FuncData} {dvs : List V} {kws : List (Str × V)} {ar : Arguments} (F : FunD K "paths_from" "paths_from" ar (defBody sPaths_from) (defScope sPaths_from) dvs kws f fd) (O : PgOps P w K mg base Cp) (ON : NsO P w K mg base C) (mLen : mg "len" = none) (mList : mg "list" = none) :
    FnOk P w K mg base CX0 3 f fd ["program", "names", "kinds", "left_out"] (spPaths K Cp C) := by
  refine funD_ok F scPaths_from (fun vs H Q E h => ?_) (fun cdv A outer s H vs Q E hr h => ?_)
  · obtain ⟨p, nl, kn, lo, rs, sts, kds, out, rfl, _⟩ := h
    rfl
  · obtain ⟨p, nl, kn, lo, rs, sts, kds, out, rfl, hP, hn, nds, sin, hk, kc, ho, k⟩ := h
    have hu : (A.deeper (PyProof.Rows.envOfC "paths_from" (defScope sPaths_from) s.heap.objs.size f cdv)).units + 1 < cLine := by have := hr.units; omega
    have hr2 := hr.mono (by decide : 2 ≤ 2)
    have hr1 : Room 1 _ := hr.mono (by decide : 1 ≤ 2)
    obtain ⟨dxo, fo, io⟩ := ho.ins
    have R := (show RightP rs from let ⟨_, _, _, _, _, _, _, R, _⟩ := hP; R)
    refine ⟨_, (pss_cons (ps_setDc (i := 4) (own := [("name", 8)]) (g := (gName 8)) rfl scPaths_from.nd rfl rfl (sw_trueD rfl rfl rfl (by decide +kernel)) (piS K (pv 1)) (blkOk_by (own := [("name", 8)]) (N := ["program", "names", "kinds", "left_out", "paths", "found", "at", "caller", "name", "kind", "callee"]) (sc := defScope sPaths_from) (by decide +kernel)) (fun _ _ _ _ _ => (pg_name (i := 8) scPaths_from.nd rfl (by first | exact Or.inl rfl | exact Or.inr rfl))) (fun _ _ _ _ _ => pts_one (pt_cmpR (om_notIn ON.has hr1 pass0) (pv 8) (pv 3) (by rfl))) (fun _ _ _ _ _ => (pv 8)) (fun _ _ _ _ _ => (pe_tup (pa_cons (pv 8) pa_nil))))
      (pss_cons (ps_set (i := 5) scPaths_from.nd rfl (by first | exact Or.inl rfl | exact Or.inr rfl) (pe_callTy (call_list_dK rfl) (by rfl) mList (by decide +kernel) (pa_cons (pv 4) pa_nil)))
      (pss_cons (ps_set (i := 6) scPaths_from.nd rfl (by first | exact Or.inl rfl | exact Or.inr rfl) pe_int)
      (pss_cons (ps_while PassesOwn.never (pt_cmpR op_lt (pv 6) (pe_callB (k_len K) (by rfl) mLen (by decide +kernel) (pa_cons (pv 5) pa_nil)) (nomark _))
        (pss_cons (ps_set (i := 7) scPaths_from.nd rfl (by first | exact Or.inl rfl | exact Or.inr rfl) (pe_ix (ixl K) (pv 5) (pv 6) (fun _ _ => rfl)))
        (pss_cons (ps_for PassesOwn.never rfl (pi_tup (om_get O.get hr2 pass0 (pv 0) (pv 7))) (pg_tup rfl (pgs_cons (pg_name (i := 9) scPaths_from.nd rfl (by first | exact Or.inl rfl | exact Or.inr rfl)) (pgs_cons (pg_name (i := 10) scPaths_from.nd rfl (by first | exact Or.inl rfl | exact Or.inr rfl)) pgs_nil)))
          (pss_one (ps_if (PW.pt (pw_and (pt_cmpR (oin K) (pv 9) (pv 2) (by rfl)) (pw_and (pt_cmpR (om_notIn ON.has hr1 pass0) (pv 10) (pv 3) (by rfl)) (pw_and1 (pt_cmp (pc_dnotin hu (pv 10) (pv 4)))))))
            (pss_cons (ps_asg (pe_op op_catT (pe_dget hu (pv 4) (pv 7) (fun _ _ => rfl)) (pe_tup (pa_cons (pv 10) pa_nil))) (pg_sub (pv 4) (pv 10) (set_dict hu)))
            (pss_one (ps_expr (pe_bm PySem.F.plainAttrs_list PySem.F.slot_list_append PySem.F.type_list_append mt_append (pv 5) (pa_cons (pv 10) pa_nil))))) pss_nil)))
        (pss_one (ps_aug (i := 6) scPaths_from.nd rfl (by first | exact Or.inl rfl | exact Or.inr rfl) pe_int ip_add)))))
      (pss_one (ps_ret (pv 4))))))), ?_⟩
    refine ⟨_, rfl, nl, _, rfl, hn, fun J G wk hG D hD => ?_⟩
    refine it_any wk (fun i H' => Same H H' ∧ ∃ kvs, H' D = some (.dK kvs) ∧ Pth K H' kvs (startP out (sts.take i))) ⟨Same.new hD, [], upd_same, ⟨.nil, fun _ h => by cases h⟩⟩ (fun i H' _ q => hG _ q.1) ?_ ?_
    · rintro i x _ H1 hi ⟨s1, kvs, hD1, pt⟩ ⟨rfl, hx⟩
      rw [List.getElem?_map] at hx
      obtain ⟨z, hz, rfl⟩ := Option.map_eq_some_iff.mp hx
      have tk : sts.take (i + 1) = sts.take i ++ [z] := by rw [List.take_add_one, hz]; rfl
      refine ⟨rfl, _, rfl, _, rfl, lo, dxo, _, rfl, s1 _ _ io, lo, out, z, rfl, ho.same s1, _, rfl, _, rfl, ?_⟩
      show if (!decide (z ∈ out)) = true then _ else _
      by_cases c : z ∈ out
      · rw [decide_eq_true c]
        refine iteF ⟨s1, kvs, hD1, ?_⟩
        unfold startP at pt ⊢
        rw [tk, List.filter_append, List.filter_cons_of_neg (by simpa using c), List.filter_nil, List.append_nil]
        exact pt
      · rw [decide_eq_false c]
        refine iteT ?_
        refine ⟨_, rfl, _, rfl, (by show 1 ≤ sizeLine; decide), fun t ht => ⟨kvs, Sum.inr z, rfl, (Same.new ht) _ _ hD1, ?_, (s1.trans (Same.new ht)).mut hD, _, upd_same, ?_⟩⟩
        · rw [pt.len]
          unfold startP
          rw [List.length_map]
          refine Nat.lt_of_le_of_lt (Nat.le_trans (List.length_filter_le _ _) (List.length_take_le _ _)) ?_
          have := few_in R nds sin
          rw [List.length_map] at hi
          exact Nat.lt_of_lt_of_le (by omega : i < 17) (by decide)
        · have es : startP out (sts.take (i + 1)) = startP out (sts.take i) ++ [(z, [z])] := by
            unfold startP
            rw [tk, List.filter_append, List.filter_cons_of_pos (by simpa using c), List.filter_nil, List.map_append]; rfl
          rw [es]
          refine ((pt.same (Same.new ht)).snoc (ys := [z]) (fun m => take_not nds hz (by
            obtain ⟨e, he, e1⟩ := List.mem_map.mp m
            obtain ⟨y, hy, rfl⟩ := List.mem_map.mp he
            exact e1 ▸ (List.mem_filter.mp hy).1)) (.of upd_same) (by simp) (by simp)).sameT (SameT.putD .refl ((Same.new ht) _ _ hD1))
    · rintro H1 ⟨s1, kvs, hD1, pt⟩
      rw [List.length_map, List.take_length] at pt
      refine ⟨_, rfl, D, kvs, rfl, hD1, fun F hF => ?_⟩
      rw [pt.keys]
      have FD : F ≠ D := ne_none hF hD1
      have nF : H F = none := by
        cases e : H F with
        | none => rfl
        | some o => rw [s1 _ _ e] at hF; cases hF
      have sk : (startP out sts).map (·.1) = sts.filter fun z => decide (¬ z ∈ out) := by
        unfold startP
        rw [List.map_map]
        exact List.map_id _
      have I0 : PfI K H (upd H1 F (.lst (((startP out sts).map (·.1)).map V.str))) D F rs (startP out sts) :=
        ⟨⟨kvs, (Same.new hF) _ _ hD1, pt.same (Same.new hF)⟩, upd_same, by rw [sk]; exact nds.filter _, fun z hz => sin z (by rw [sk] at hz; exact (List.mem_filter.mp hz).1), s1.trans (Same.new hF)⟩
      generalize upd H1 F (.lst (((startP out sts).map (·.1)).map V.str)) = HA at I0
      have g0 : growP (bodyOf (pls rs)) kds out (17 - 0) 0 (startP out sts) = pathsN (pls rs) kds out sts := rfl
      generalize startP out sts = ac0 at I0 g0
      generalize pathsN (pls rs) kds out sts = T at k g0
      have bo : ∀ r ∈ rs, bodyOf (pls rs) r.name = r.ss := fun r hr => bodyOf_mem (by rw [pls_names]; exact R.nd) (List.mem_map.mpr ⟨r, hr, rfl⟩)
      refine while_by (fun σ H' => ∃ (ac : List Pa) (j : Nat) (v7 v8 v9 v10 : Option V), σ = [some (.ref p), some (.ref nl), some (.ref kn), some (.ref lo), some (.ref D), some (.ref F), some (.int (j : Nat)), v7, v8, v9, v10] ∧ PfI K H H' D F rs ac ∧
        growP (bodyOf (pls rs)) kds out (17 - j) j ac = T) (muP 6) ⟨ac0, 0, none, none, none, none, rfl, I0, g0⟩ ?_ ?_
      · rintro σ HB ⟨ac, j, v7, v8, v9, v10, rfl, I, gT⟩
        have few := few_in R I.nd I.inn
        rw [List.length_map] at few
        refine ⟨_, rfl, _, rfl, F, _, rfl, .inl (.of I.f), _, _, rfl, rfl, _, rfl, ?_⟩
        rw [List.length_map, List.length_map]
        by_cases lt : j < ac.length
        · rw [decide_eq_true (by omega : (j : Int) < (ac.length : Nat))]
          refine iteT ?_
          have hy := List.getElem?_eq_getElem lt
          generalize ac[j] = y at hy
          have ym : y ∈ ac := List.mem_of_getElem? hy
          obtain ⟨r, hrr, ey⟩ := List.mem_map.mp (I.inn y.1 (List.mem_map.mpr ⟨y, ym, rfl⟩))
          have gT : growP (bodyOf (pls rs)) kds out (16 - j) (j + 1) (visP kds out y.2 ac r.ss) = T := by
            rw [show 17 - j = (16 - j) + 1 by omega, growP_step hy, ← ey, bo r hrr] at gT
            exact gT
          have PB := hP.same I.s
          have hmy : ((ac.map (·.1)).map V.str)[j]? = some (.str r.name) := by rw [List.getElem?_map, List.getElem?_map, hy, ey]; rfl
          obtain ⟨dxp, _, _, _, _, _, xp, _⟩ := id PB
          refine ⟨_, rfl, _, rfl, F, _, (j : Nat), _, rfl, rfl, .of I.f, atI_nat hmy, ?_⟩
          refine ⟨_, rfl, _, rfl, p, dxp, _, rfl, xp.o, p, rs, r, rfl, PB, hrr, fun u sq st => ⟨u, rfl, ⟨_, sq⟩, ?_⟩⟩
          have ls : (r.ts.map V.ref).length = r.ss.length := by rw [List.length_map]; exact Paired.length st
          refine for_it walk_tup (fun i σ H' => ∃ (ac' : List Pa) (v8 v9 v10 : Option V), σ = [some (.ref p), some (.ref nl), some (.ref kn), some (.ref lo), some (.ref D), some (.ref F), some (.int (j : Nat)), some (.str r.name), v8, v9, v10] ∧ PfI K H H' D F rs ac' ∧
            y ∈ ac' ∧ visP kds out y.2 ac' (r.ss.drop i) = visP kds out y.2 ac r.ss ∧ SameT HB H') ⟨ac, v8, v9, v10, rfl, I, ym, rfl, .refl⟩ (fun i σ H' _ q => q.choose_spec.choose_spec.choose_spec.choose_spec.2.2.2.2.tup sq) ?_ ?_
          · rintro i x σ _ HC hi ⟨ac', w8, w9, w10, rfl, I', ym', vT, sT⟩ ⟨rfl, hx⟩
            rw [List.getElem?_map] at hx
            obtain ⟨t, ht, rfl⟩ := Option.map_eq_some_iff.mp hx
            obtain ⟨sp, hsp, hts⟩ := st.get ht
            have il := (List.getElem?_eq_some_iff.mp hsp).1
            have ed : r.ss.drop i = sp :: r.ss.drop (i + 1) := by
              rw [List.drop_eq_getElem_cons il, (List.getElem?_eq_some_iff.mp hsp).2]
            rw [ed] at vT
            have vT : visP kds out y.2 (putP kds out y.2 ac' sp) (r.ss.drop (i + 1)) = visP kds out y.2 ac r.ss := vT
            have no : ¬ (sp.1 ∈ kds ∧ ¬ sp.2 ∈ out ∧ ¬ sp.2 ∈ ac'.map (·.1)) → visP kds out y.2 ac' (r.ss.drop (i + 1)) = visP kds out y.2 ac r.ss := fun c => by
              unfold putP at vT
              rw [if_neg c] at vT
              exact vT
            refine ⟨t, _, rfl, .of (sT _ _ noLD_tup hts), rfl, _, _, rfl, _, _, rfl, rfl, ?_⟩
            refine ⟨_, rfl, _, rfl, kn, _, rfl, .inr (I'.s.tup hk), rfl, flat_strs kds, _, rfl, ?_⟩
            show if inV (.str sp.1) (kds.map V.str) = true then _ else _
            rw [inV_str]
            refine ite2 (fun q1 => ?_) fun q1 => ⟨ac', w8, _, _, rfl, I', ym', no fun c => q1 (decide_eq_true c.1), sT⟩
            refine ⟨_, rfl, _, rfl, lo, dxo, _, rfl, I'.s _ _ io, lo, out, sp.2, rfl, ho.same I'.s, _, rfl, _, rfl, ?_⟩
            show if (!decide (sp.2 ∈ out)) = true then _ else _
            by_cases q2 : sp.2 ∈ out
            · rw [decide_eq_true q2]
              exact iteF ⟨ac', w8, _, _, rfl, I', ym', no fun c => c.2.1 q2, sT⟩
            rw [decide_eq_false q2]
            refine iteT ?_
            obtain ⟨kvs, hD1, pt⟩ := I'.d
            by_cases q3 : sp.2 ∈ ac'.map (·.1)
            · obtain ⟨v, hv⟩ := pt.some I'.nd q3
              refine ⟨_, rfl, _, rfl, D, some (.ref v), rfl, .inl ⟨_, Sum.inr sp.2, .inl hD1, rfl, hv.symm⟩, _, rfl, iteF ?_⟩
              exact ⟨ac', w8, _, _, rfl, I', ym', no fun c => c.2.2 q3, sT⟩
            · refine ⟨_, rfl, _, rfl, D, none, rfl, .inl ⟨_, Sum.inr sp.2, .inl hD1, rfl, (pt.none q3).symm⟩, _, rfl, iteT ?_⟩
              obtain ⟨v, hv, hz⟩ := pt.at I'.nd ym'
              obtain ⟨zne, zl⟩ := pt.b y ym'
              have vT2 : visP kds out y.2 (ac' ++ [(sp.2, y.2 ++ [sp.2])]) (r.ss.drop (i + 1)) = visP kds out y.2 ac r.ss := by
                unfold putP at vT
                rw [if_pos ⟨of_decide_eq_true q1, q2, q3⟩] at vT
                exact vT
              rw [← ey] at hv
              have lf := few_in R I'.nd I'.inn
              rw [List.length_map] at lf
              have big : (17 : Nat) < sizeLine := by decide
              generalize y.2 = zs at hz zne zl vT2
              refine ⟨_, rfl, _, rfl, D, .ref v, rfl, .inl ⟨_, Sum.inr r.name, .inl hD1, rfl, hv.symm⟩, _, rfl, (by show 1 ≤ sizeLine; decide), fun t1 ht1 => ?_⟩
              have lk := pt.len
              refine ⟨v, t1, _, _, rfl, rfl, (Same.new ht1).tup hz, .of upd_same, (by simpa using zne), (by rw [List.length_map, List.length_singleton]; omega), (fun e => nomatch e), fun _ t2 ht2 => ?_⟩
              have s2 : Same HC (upd (upd HC t1 (.tup [.str sp.2])) t2 (.tup (zs.map V.str ++ [.str sp.2]))) := (Same.new ht1).trans (Same.new ht2)
              have h2 : (upd (upd HC t1 (.tup [.str sp.2])) t2 (.tup (zs.map V.str ++ [.str sp.2]))) t2 = some (.tup ((zs ++ [sp.2]).map V.str)) := by rw [upd_same, List.map_append]; rfl
              generalize upd (upd HC t1 (.tup [.str sp.2])) t2 (.tup (zs.map V.str ++ [.str sp.2])) = HD at s2 h2
              have hF2 := s2 _ _ I'.f
              refine ⟨_, rfl, _, rfl, D, _, rfl, .inl ⟨kvs, Sum.inr sp.2, s2 _ _ hD1, rfl, (by omega), rfl⟩, ?_⟩
              have nD : H D = none := hD
              have sD : SameT HD (upd HD D (.dK (putK kvs (Sum.inr sp.2) (.ref t2)))) := SameT.putD .refl (s2 _ _ hD1)
              have hF3 : (upd HD D (.dK (putK kvs (Sum.inr sp.2) (.ref t2)))) F = some (.lst ((ac'.map (·.1)).map V.str)) := by rw [upd_ne FD]; exact hF2
              have pt3 : Pth K (upd HD D (.dK (putK kvs (Sum.inr sp.2) (.ref t2)))) (putK kvs (Sum.inr sp.2) (.ref t2)) (ac' ++ [(sp.2, zs ++ [sp.2])]) :=
                ((pt.same s2).snoc q3 (ys := zs ++ [sp.2]) (.of h2) (by simp) (by rw [List.length_append, List.length_singleton]; omega)).sameT sD
              have hD3 : (upd HD D (.dK (putK kvs (Sum.inr sp.2) (.ref t2)))) D = some (.dK (putK kvs (Sum.inr sp.2) (.ref t2))) := upd_same
              have s3 : Same H (upd HD D (.dK (putK kvs (Sum.inr sp.2) (.ref t2)))) := (I'.s.trans s2).mut nD
              have sT3 : SameT HB (upd HD D (.dK (putK kvs (Sum.inr sp.2) (.ref t2)))) := (sT.trans (.of s2)).trans sD
              generalize upd HD D (.dK (putK kvs (Sum.inr sp.2) (.ref t2))) = HE at sD hF3 pt3 hD3 s3 sT3
              refine ⟨_, rfl, .inl ⟨rfl, _, .of hF3⟩, _, rfl, F, _, _, rfl, rfl, hF3, (by rw [List.length_map, List.length_map]; omega), ?_⟩
              refine ⟨ac' ++ [(sp.2, zs ++ [sp.2])], w8, _, _, rfl, ⟨⟨_, by rw [upd_ne (Ne.symm FD)]; exact hD3, pt3.sameT (SameT.putL .refl hF3)⟩, by rw [upd_same, List.map_append, List.map_append]; rfl, ?_, fun z hz => ?_, s3.mut nF⟩, List.mem_append_left _ ym', vT2, sT3.putL hF3⟩
              · rw [List.map_append, List.nodup_append]
                exact ⟨I'.nd, List.nodup_cons.mpr ⟨(by simp), List.nodup_nil⟩, fun a ha b hb e => q3 (by have hb : b = sp.2 := List.mem_singleton.mp hb; rw [← hb, ← e]; exact ha)⟩
              · rw [List.map_append] at hz
                rcases List.mem_append.mp hz with q | q
                · exact I'.inn z q
                · rw [List.mem_singleton.mp q]
                  exact R.ca r hrr sp (List.mem_of_getElem? hsp) (kc _ (of_decide_eq_true q1))
          · rintro σ HC ⟨ac', w8, w9, w10, rfl, I', ym', vT, sT⟩
            rw [ls, List.drop_length] at vT
            have vT : ac' = visP kds out y.2 ac r.ss := vT
            refine ⟨_, rfl, _, _, rfl, rfl, ⟨ac', j + 1, _, w8, w9, w10, rfl, I', ?_⟩, ?_⟩
            · rw [vT, show 17 - (j + 1) = 16 - j by omega]; exact gT
            · show 17 - ((j : Int) + 1).toNat < 17 - (j : Int).toNat
              omega
        · rw [decide_eq_false (by omega : ¬ (j : Int) < (ac.length : Nat))]
          refine iteF ?_
          obtain ⟨kvs, hD1, pt⟩ := I.d
          rw [growP_end (by omega)] at gT
          exact ⟨_, rfl, k D kvs ac HB I.s hD hD1 pt gT I.nd few I.inn⟩
      · rintro σ H' Q Q' m ⟨x, e1, y, e2, a, ys, e3, h1, i, j, e4, e5, c, e6, q⟩
        exact ⟨x, e1, y, e2, a, ys, e3, h1, i, j, e4, e5, c, e6, m _ _ q⟩
end
end Mf
namespace Mf
open PySem L2
section
variable {P : Program} {w : World} {K : PySem.W.Frag} {mg : Str → Option Value} {base : Heap} {Cp C : Addr}
/-! ### check_procedure, checked_procedures -/
def spCheck (K : PySem.W.Frag) (Cp : Addr) : Sp := fun vs H Q _ => ∃ (p : Addr) (rs : List Pr) (z : Str), vs = [.ref p, .str z] ∧ Prg K Cp H p rs ∧ z ∈ rs.map Pr.name ∧ Q .non H
abbrev sCheck_procedure : Stmt := top 12
theorem scCheck_procedure : FnScope ["program", "name"] ["program", "name"] (defScope sCheck_procedure) := ⟨rfl, rfl, rfl, by decide +kernel, rfl, by decide +kernel, by decide +kernel⟩
theorem ok_check {f : Addr} {fd : FuncData} (F : Fun K "check_procedure" "check_procedure" sCheck_procedure f fd) (O : PgOps P w K mg base Cp) : FnOk P w K mg base CX0 2 f fd ["program", "name"] (spCheck K Cp) := by
  refine F.ok scCheck_procedure (fun vs H Q E h => ?_) (fun cdv A outer s H vs Q E hr h => ?_)
  · obtain ⟨p, rs, z, rfl, _⟩ := h
    rfl
  · obtain ⟨p, rs, z, rfl, hP, hz, k⟩ := h
    refine ⟨_, (pss_one (ps_if (pt_cmpR (om_notIn O.has hr pass0) (pv 1) (pv 0) (by rfl))
        (pss_one ps_never) pss_nil)), ?_⟩
    obtain ⟨dx, _, _, _, _, _, x, _⟩ := id hP
    refine ⟨_, rfl, _, rfl, p, dx, _, rfl, x.o, p, rs, z, rfl, hP, _, rfl, _, rfl, ?_⟩
    show if (!decide (z ∈ rs.map Pr.name)) = true then _ else _
    rw [decide_eq_true hz]
    exact iteF k
def spCheckeds (K : PySem.W.Frag) (Cp C : Addr) : Sp := fun vs H Q _ => ∃ (p : Addr) (rs : List Pr) (x : V) (xs : List Str), vs = [.ref p, x] ∧ Prg K Cp H p rs ∧ ArgS K C H x xs ∧ xs.length < 4000 ∧ (∀ z ∈ xs, z ∈ rs.map Pr.name) ∧
  ∀ q ms H', NSet C H' q ms → (∀ z, z ∈ ms ↔ z ∈ xs) → Same H H' → Q (.ref q) H'
abbrev sChecked_procedures : Stmt := top 13
theorem scChecked_procedures : FnScope ["program", "names", "known", "name"] ["program", "names"] (defScope sChecked_procedures) := ⟨rfl, rfl, rfl, by decide +kernel, rfl, by decide +kernel, by decide +kernel⟩
theorem ok_checkeds {f : Addr} {fd : FuncData} (F : Fun K "checked_procedures" "checked_procedures" sChecked_procedures f fd) (T : NsC K mg C) (mk1 : CalN P w K mg base C []) (c_check_procedure : Cal P w K mg base CX0 2 "check_procedure" ["program", "name"] (spCheck K Cp)) : FnOk P w K mg base CX0 3 f fd ["program", "names"] (spCheckeds K Cp C) := by
  refine F.ok scChecked_procedures (fun vs H Q E h => ?_) (fun cdv A outer s H vs Q E hr h => ?_)
  · obtain ⟨p, rs, x, xs, rfl, _⟩ := h
    rfl
  · obtain ⟨p, rs, x, xs, rfl, hP, ax, few, hin, k⟩ := h
    have hr_check_procedure := hr
    refine ⟨_, (pss_cons (ps_set (i := 2) scChecked_procedures.nd rfl (by first | exact Or.inl rfl | exact Or.inr rfl) (pe_mkc mk1 hr pass0 (pa_cons (pv 1) pa_nil)))
      (pss_cons (ps_for PassesOwn.never rfl (pi_tup (fldK K (pv 2))) (pg_name (i := 3) scChecked_procedures.nd rfl (by first | exact Or.inl rfl | exact Or.inr rfl))
        (pss_one (ps_expr (pe_cal c_check_procedure hr_check_procedure pass0 (pa_cons (pv 0) (pa_cons (pv 3) pa_nil))))))
      (pss_one (ps_ret (pv 2))))), ?_⟩
    have R := (show RightP rs from let ⟨_, _, _, _, _, _, _, R, _⟩ := hP; R)
    refine ⟨_, rfl, ?_⟩
    intro q dx nq nd _
    refine ⟨q, dx, x, xs, rfl, upd_same, ax.same (ns_grow nq nd), few, fun t ms H1 up m h1 h2 kp => ⟨rfl, ?_⟩⟩
    obtain ⟨N, s1⟩ := ns_after few (fun z hz => names_ok R z (hin z hz)) nq nd up m h1 h2 kp
    refine ⟨_, rfl, q, C, dx, _, _, rfl, h1, T.ins.cl, T.nM, flM_get t, t, rfl, ⟨_, .of h2⟩, ?_⟩
    refine for_it walk_tup (fun i σ H' => ∃ v3 : Option V, σ = [some (.ref p), some x, some (.ref q), v3] ∧ H' = H1) ⟨none, rfl, rfl⟩ (fun i σ H' _ z => by obtain ⟨_, _, rfl⟩ := z; exact .of h2) ?_ ?_
    · rintro i x σ _ H2 hi ⟨v3, rfl, rfl⟩ ⟨rfl, hx⟩
      rw [List.getElem?_map] at hx
      obtain ⟨z, hz, rfl⟩ := Option.map_eq_some_iff.mp hx
      exact ⟨_, rfl, _, rfl, p, rs, z, rfl, hP.same s1, hin z ((m z).mp (List.mem_of_getElem? hz)), _, rfl, rfl⟩
    · rintro σ _ ⟨v3, rfl, rfl⟩
      exact ⟨_, rfl, k q ms _ N m s1⟩

/-! ### check_place, requiring_paths, breaks, readers -/
def spCheckPl (K : PySem.W.Frag) (Cp : Addr) : Sp := fun vs H Q _ => ∃ (p : Addr) (rs : List Pr) (z : Str), vs = [.ref p, .str z] ∧ Prg K Cp H p rs ∧ z ∈ readsOf rs ∧ Q .non H
def spReqP (K : PySem.W.Frag) (Cp C : Addr) : Sp := fun vs H Q _ => ∃ (p so : Addr) (rs : List Pr) (y : Str) (out : List Str), vs = [.ref p, .str y, .ref so] ∧ Prg K Cp H p rs ∧ y ∈ rs.map Pr.name ∧ NSet C H so out ∧
  ∀ (d : Addr) (kvs : List (Key × V)) (ac : List Pa) (H' : Hp), Same H H' → H d = none → H' d = some (.dK kvs) → Pth K H' kvs ac → ac = pathsN (pls rs) requiring out [y] → (ac.map (·.1)).Nodup → ac.length ≤ 16 → (∀ z ∈ ac.map (·.1), z ∈ rs.map Pr.name) → Q (.ref d) H'
abbrev sRequiring_paths : Stmt := top 34
theorem scRequiring_paths : FnScope ["program", "name", "spared"] ["program", "name", "spared"] (defScope sRequiring_paths) := ⟨rfl, rfl, rfl, by decide +kernel, rfl, by decide +kernel, by decide +kernel⟩
theorem ok_reqp {f aR : Addr} {fd : FuncData} (F : Fun K "requiring_paths" "requiring_paths" sRequiring_paths f fd) (c_paths_from : CalD P w K mg base CX0 3 "paths_from" ["program", "names", "kinds", "left_out"] (spPaths K Cp C) []) (mg_REQUIRING_KINDS : mg "REQUIRING_KINDS" = some (.ref aR)) (qR : ∀ H, SqT K H aR (requiring.map V.str)) :
    FnOk P w K mg base CX0 4 f fd ["program", "name", "spared"] (spReqP K Cp C) := by
  refine F.ok scRequiring_paths (fun vs H Q E h => ?_) (fun cdv A outer s H vs Q E hr h => ?_)
  · obtain ⟨p, so, rs, y, out, rfl, _⟩ := h
    rfl
  · obtain ⟨p, so, rs, y, out, rfl, hP, hy, hN, k⟩ := h
    refine ⟨_, (pss_one (ps_ret (pe_cald c_paths_from hr pass0 (pa_cons (pv 0) (pa_cons (pe_lst (pa_cons (pv 1) pa_nil)) (pa_cons (pe_glob (v := .ref _) rfl mg_REQUIRING_KINDS rfl) (pa_cons (pv 2) pa_nil))))))), ?_⟩
    refine ⟨_, rfl, _, rfl, (by show 1 ≤ sizeLine; decide), fun nl nnl => ?_⟩
    have s1 := Same.new (o := .lst [.str y]) nnl
    refine ⟨_, rfl, p, nl, aR, so, rs, [y], requiring, out, rfl, hP.same s1, .inl (.of upd_same), by simp, fun z hz => by rw [List.mem_singleton.mp hz]; exact hy, qR _, by decide +kernel, hN.same s1, fun d kvs ac H' s' nd hd pt ea ndk few kin => ?_⟩
    have nd0 : H d = none := by
      cases e : H d with
      | none => rfl
      | some o => rw [s1 _ _ e] at nd; cases nd
    exact k d kvs ac H' (s1.trans s') nd0 hd pt ea ndk few kin
end
end Mf
/-! items of rows -/
namespace Mf
open PySem L2
inductive Itm
  | num (n : Int)
  | wd (w : Str)
  | gap
  | nd (i : Nat)
def itV : Itm → List V
  | .num n => [.str "number", .int n]
  | .wd w => [.str "word", .str w]
  | .gap => [.str "gap"]
  | .nd i => [.str "node", .int i]
def itmDec : (a b : Itm) → Decidable (a = b)
  | .num n, .num m => if h : n = m then isTrue (by rw [h]) else isFalse fun e => h (Itm.num.inj e)
  | .wd n, .wd m => if h : n = m then isTrue (by rw [h]) else isFalse fun e => h (Itm.wd.inj e)
  | .gap, .gap => isTrue rfl
  | .nd n, .nd m => if h : n = m then isTrue (by rw [h]) else isFalse fun e => h (Itm.nd.inj e)
  | .num _, .wd _ => isFalse fun e => nomatch e
  | .num _, .gap => isFalse fun e => nomatch e
  | .num _, .nd _ => isFalse fun e => nomatch e
  | .wd _, .num _ => isFalse fun e => nomatch e
  | .wd _, .gap => isFalse fun e => nomatch e
  | .wd _, .nd _ => isFalse fun e => nomatch e
  | .gap, .num _ => isFalse fun e => nomatch e
  | .gap, .wd _ => isFalse fun e => nomatch e
  | .gap, .nd _ => isFalse fun e => nomatch e
  | .nd _, .num _ => isFalse fun e => nomatch e
  | .nd _, .wd _ => isFalse fun e => nomatch e
  | .nd _, .gap => isFalse fun e => nomatch e
instance : DecidableEq Itm := itmDec
def ItA (K : PySem.W.Frag) (H : Hp) (t : Addr) (it : Itm) : Prop := SqT K H t (itV it)
theorem ItA.same {K : PySem.W.Frag} {H H' : Hp} {t : Addr} {it : Itm} (x : ItA K H t it) (s : Same H H') : ItA K H' t it := s.tup x
theorem ItA.sameN {K : PySem.W.Frag} {H H' : Hp} {t : Addr} {it : Itm} (x : ItA K H t it) (s : SameN H H') : ItA K H' t it := s.tup x
theorem it_tag (it : Itm) : ∃ tg rest, itV it = .str tg :: rest ∧ (tg = "node" ↔ ∃ i, it = .nd i) := by
  cases it with
  | num n => exact ⟨"number", _, rfl, fun h => absurd h (by decide), fun h => by obtain ⟨i, h⟩ := h; cases h⟩
  | wd w => exact ⟨"word", _, rfl, fun h => absurd h (by decide), fun h => by obtain ⟨i, h⟩ := h; cases h⟩
  | gap => exact ⟨"gap", _, rfl, fun h => absurd h (by decide), fun h => by obtain ⟨i, h⟩ := h; cases h⟩
  | nd i => exact ⟨"node", _, rfl, fun _ => ⟨i, rfl⟩, fun _ => rfl⟩
/-! ### as data -/
def itD : Itm → PyData
  | .num n => .tuple [.str "number", .int n]
  | .wd w => .tuple [.str "word", .str w]
  | .gap => .tuple [.str "gap"]
  | .nd i => .tuple [.str "node", .int i]
theorem dp_it {K : PySem.W.Frag} {H : Hp} {t : Addr} {it : Itm} (h : ItA K H t it) : Dp K H (.ref t) (itD it) := by
  cases it with
  | num n => exact .tup h (.cons (.str _) (.cons (.int _) .nil))
  | wd w => exact .tup h (.cons (.str _) (.cons (.str _) .nil))
  | gap => exact .tup h (.cons (.str _) .nil)
  | nd i => exact .tup h (.cons (.str _) (.cons (.int _) .nil))
theorem sh_it {it : Itm} (h : ∀ w, it = .wd w → PyData.strOk w = true) : Sh 1 (itD it) := by
  have two : ∀ {a b : PyData}, Sh 0 a → Sh 0 b → Sh 1 (.tuple [a, b]) := fun {a b} ha hb => .tuple fun d hd => by
    simp only [List.mem_cons, List.not_mem_nil, or_false] at hd
    rcases hd with rfl | rfl
    · exact ha
    · exact hb
  cases it with
  | num n => exact two (.str (by decide +kernel)) (.int _)
  | wd w => exact two (.str (by decide +kernel)) (.str (h w rfl))
  | gap => exact .tuple fun d hd => by rw [List.mem_singleton.mp hd]; exact .str (by decide +kernel)
  | nd i => exact two (.str (by decide +kernel)) (.int _)
theorem eqv_s (z : Str) : PyData.eqv (.str z) (.str z) = true := by rw [eqv_str]; simp
theorem eqv_ne2 {a b c d : PyData} (h : PyData.eqv a c = false) : PyData.eqv (.tuple [a, b]) (.tuple [c, d]) = false := by
  show (PyData.eqv a c && (PyData.eqv b d && true)) = false
  rw [h]; rfl
theorem eqv_2 {a b c d : PyData} (h : PyData.eqv a c = true) : PyData.eqv (.tuple [a, b]) (.tuple [c, d]) = PyData.eqv b d := by
  show (PyData.eqv a c && (PyData.eqv b d && true)) = _
  rw [h, Bool.true_and, Bool.and_true]
theorem eqv_21 {a b c : PyData} : PyData.eqv (.tuple [a, b]) (.tuple [c]) = false := by
  show (PyData.eqv a c && false) = false
  rw [Bool.and_false]
theorem eqv_12 {a b c : PyData} : PyData.eqv (.tuple [c]) (.tuple [a, b]) = false := by
  show (PyData.eqv c a && false) = false
  rw [Bool.and_false]
theorem eqv_int (n m : Int) : PyData.eqv (.int n) (.int m) = decide (n = m) := by
  show (n == m) = _
  by_cases e : n = m <;> simp [e]
theorem eqv_t {x y : Str} (h : x ≠ y) : PyData.eqv (.str x) (.str y) = false := by rw [eqv_str]; exact decide_eq_false h
theorem eqv_it (a b : Itm) : PyData.eqv (itD a) (itD b) = decide (a = b) := by
  cases a with
  | num n => cases b with
    | num m => exact ((eqv_2 (eqv_s _)).trans (eqv_int n m)).trans (by by_cases e : n = m <;> simp [e])
    | gap => exact eqv_21.trans (decide_eq_false (by simp)).symm
    | wd z => exact (eqv_ne2 (eqv_t (by decide))).trans (decide_eq_false (by simp)).symm
    | nd j => exact (eqv_ne2 (eqv_t (by decide))).trans (decide_eq_false (by simp)).symm
  | wd z => cases b with
    | num m => exact (eqv_ne2 (eqv_t (by decide))).trans (decide_eq_false (by simp)).symm
    | wd u => exact ((eqv_2 (eqv_s _)).trans (eqv_str z u)).trans (by by_cases e : z = u <;> simp [e])
    | gap => exact eqv_21.trans (decide_eq_false (by simp)).symm
    | nd j => exact (eqv_ne2 (eqv_t (by decide))).trans (decide_eq_false (by simp)).symm
  | gap => cases b with
    | gap => exact (show PyData.eqv (itD .gap) (itD .gap) = true by decide +kernel).trans (decide_eq_true rfl).symm
    | _ => exact eqv_12.trans (decide_eq_false (by simp)).symm
  | nd i => cases b with
    | num m => exact (eqv_ne2 (eqv_t (by decide))).trans (decide_eq_false (by simp)).symm
    | wd u => exact (eqv_ne2 (eqv_t (by decide))).trans (decide_eq_false (by simp)).symm
    | gap => exact eqv_21.trans (decide_eq_false (by simp)).symm
    | nd j => exact ((eqv_2 (eqv_s _)).trans (eqv_int _ _)).trans (by by_cases e : i = j <;> simp [e, Int.ofNat_inj])
/-! ### as keys -/
def nkI : Itm → NestedKey
  | .num n => .tup [.text "number", .num n]
  | .wd w => .tup [.text "word", .text w]
  | .gap => .tup [.text "gap"]
  | .nd i => .tup [.text "node", .num i]
theorem nkI_inj {a b : Itm} (h : nkI a = nkI b) : a = b := by
  cases a <;> cases b <;> simp only [nkI, NestedKey.tup.injEq, List.cons.injEq, NestedKey.text.injEq, NestedKey.num.injEq, and_true, true_and] at h
  all_goals first
    | exact absurd h.1 (by decide)
    | rw [h]
    | rw [Int.ofNat.inj h]
    | rfl
    | exact absurd h.2 (by simp)
    | exact absurd h (by simp)
def nkRow (r : List Itm) : NestedKey := .tup (r.map nkI)
theorem nkRow_inj {a b : List Itm} (h : nkRow a = nkRow b) : a = b := by
  unfold nkRow at h
  injection h with h
  induction a generalizing b with
  | nil => cases b with
    | nil => rfl
    | cons y ys => simp at h
  | cons x xs ih => cases b with
    | nil => simp at h
    | cons y ys =>
      rw [List.map_cons, List.map_cons, List.cons.injEq] at h
      rw [nkI_inj h.1, ih h.2]
theorem nkI_depth (a : Itm) : (nkI a).depth ≤ 1 := by cases a <;> simp [nkI, NestedKey.depth, NestedKey.depthAll]
theorem nkRow_depth (r : List Itm) : (nkRow r).depth ≤ 8 := by
  unfold nkRow
  have h : NestedKey.depthAll (r.map nkI) ≤ 1 := by
    induction r with
    | nil => simp [NestedKey.depthAll]
    | cons x xs ih =>
      rw [List.map_cons, NestedKey.depthAll]
      have := nkI_depth x
      omega
  rw [NestedKey.depth]
  omega
end Mf
/-! the classes of rows, purely -/
namespace Mf
open PySem L2
section
variable {α : Type} [DecidableEq α]
def ixG (k : α) : List α → Nat
  | [] => 0
  | d :: ds => if d = k then 0 else ixG k ds + 1
theorem ixG_at {k : α} : ∀ {ds : List α}, k ∈ ds → ds[ixG k ds]? = some k
  | [], h => nomatch h
  | d :: ds, h => by
    unfold ixG
    by_cases e : d = k
    · rw [if_pos e, e]; rfl
    · rw [if_neg e]
      rcases List.mem_cons.mp h with q | q
      · exact absurd q.symm e
      · exact ixG_at q
theorem ixG_lt {k : α} {ds : List α} (h : k ∈ ds) : ixG k ds < ds.length := (List.getElem?_eq_some_iff.mp (ixG_at h)).1
theorem ixG_app {k : α} : ∀ {ds : List α} (e : List α), k ∈ ds → ixG k (ds ++ e) = ixG k ds
  | [], _, h => nomatch h
  | d :: ds, e, h => by
    show ixG k (d :: (ds ++ e)) = _
    unfold ixG
    by_cases c : d = k
    · rw [if_pos c, if_pos c]
    · rw [if_neg c, if_neg c]
      rcases List.mem_cons.mp h with q | q
      · exact absurd q.symm c
      · rw [ixG_app e q]
theorem ixG_new {k : α} : ∀ {ds : List α} (e : List α), k ∉ ds → ixG k (ds ++ k :: e) = ds.length
  | [], e, _ => by show ixG k (k :: e) = 0; unfold ixG; rw [if_pos rfl]
  | d :: ds, e, h => by
    show ixG k (d :: (ds ++ k :: e)) = _
    unfold ixG
    rw [if_neg (fun c => h (by rw [c]; exact List.mem_cons_self)), ixG_new e (fun m => h (List.mem_cons_of_mem _ m)), List.length_cons]
theorem ixG_inj {a b : α} {ds : List α} (ha : a ∈ ds) (hb : b ∈ ds) (e : ixG a ds = ixG b ds) : a = b := by
  have x := ixG_at ha
  rw [e, ixG_at hb] at x
  exact (Option.some.inj x).symm
/-- the different ones, in the order of their occurrence -/
def dd : List α → List α → List α
  | ds, [] => ds
  | ds, k :: ks => if k ∈ ds then dd ds ks else dd (ds ++ [k]) ks
theorem dd_pre : ∀ (ks ds : List α), ∃ e, dd ds ks = ds ++ e
  | [], ds => ⟨[], by rw [List.append_nil]; rfl⟩
  | k :: ks, ds => by
    unfold dd
    by_cases c : k ∈ ds
    · rw [if_pos c]; exact dd_pre ks ds
    · rw [if_neg c]
      obtain ⟨e, h⟩ := dd_pre ks (ds ++ [k])
      exact ⟨k :: e, by rw [h, List.append_assoc]; rfl⟩
theorem dd_mem : ∀ {ks ds : List α} {k : α}, k ∈ ks → k ∈ dd ds ks
  | [], _, _, h => nomatch h
  | k' :: ks, ds, k, h => by
    unfold dd
    by_cases c : k' ∈ ds
    · rw [if_pos c]
      rcases List.mem_cons.mp h with q | q
      · obtain ⟨e, he⟩ := dd_pre ks ds
        rw [he, q]; exact List.mem_append_left _ c
      · exact dd_mem q
    · rw [if_neg c]
      rcases List.mem_cons.mp h with q | q
      · obtain ⟨e, he⟩ := dd_pre ks (ds ++ [k'])
        rw [he, q]; exact List.mem_append_left _ (List.mem_append_right _ (List.mem_singleton.mpr rfl))
      · exact dd_mem q
theorem dd_sub : ∀ {ks ds : List α} {k : α}, k ∈ dd ds ks → k ∈ ds ∨ k ∈ ks
  | [], _, _, h => .inl h
  | k' :: ks, ds, k, h => by
    unfold dd at h
    by_cases c : k' ∈ ds
    · rw [if_pos c] at h
      exact (dd_sub h).imp id fun m => List.mem_cons_of_mem _ m
    · rw [if_neg c] at h
      rcases dd_sub h with m | m
      · rcases List.mem_append.mp m with m | m
        · exact .inl m
        · exact .inr (by rw [List.mem_singleton.mp m]; exact List.mem_cons_self)
      · exact .inr (List.mem_cons_of_mem _ m)
/-- the number of each: the place among the different ones -/
def numK (ks : List α) : List Nat := ks.map fun k => ixG k (dd [] ks)
theorem dd_snoc : ∀ (ks ds : List α) (k : α), dd ds (ks ++ [k]) = if k ∈ dd ds ks then dd ds ks else dd ds ks ++ [k]
  | [], ds, k => by
    show dd ds [k] = _
    unfold dd
    rfl
  | k' :: ks, ds, k => by
    show dd ds (k' :: (ks ++ [k])) = _
    unfold dd
    by_cases c : k' ∈ ds
    · rw [if_pos c, if_pos c]; exact dd_snoc ks ds k
    · rw [if_neg c, if_neg c]; exact dd_snoc ks _ k
theorem dd_app (ks ms ds : List α) : ∃ e, dd ds (ks ++ ms) = dd ds ks ++ e := by
  induction ks generalizing ds with
  | nil => exact dd_pre ms ds
  | cons k ks ih =>
    show ∃ e, dd ds (k :: (ks ++ ms)) = dd ds (k :: ks) ++ e
    unfold dd
    by_cases c : k ∈ ds
    · rw [if_pos c, if_pos c]; exact ih ds
    · rw [if_neg c, if_neg c]; exact ih _
theorem dd_nd : ∀ (ks ds : List α), ds.Nodup → (dd ds ks).Nodup
  | [], _, h => h
  | k :: ks, ds, h => by
    unfold dd
    by_cases c : k ∈ ds
    · rw [if_pos c]; exact dd_nd ks ds h
    · rw [if_neg c]
      refine dd_nd ks _ (List.nodup_append.mpr ⟨h, List.nodup_cons.mpr ⟨by simp, List.nodup_nil⟩, fun a ha b hb e => c (by rw [← List.mem_singleton.mp hb, ← e]; exact ha)⟩)
theorem numK_len (ks : List α) : (numK ks).length = ks.length := by unfold numK; rw [List.length_map]
theorem numK_at {ks : List α} {i : Nat} {k : α} (h : ks[i]? = some k) : (numK ks)[i]? = some (ixG k (dd [] ks)) := by unfold numK; rw [List.getElem?_map, h]; rfl
theorem numK_eq {ks : List α} {i j : Nat} {a b : α} (hi : ks[i]? = some a) (hj : ks[j]? = some b) : (numK ks)[i]? = (numK ks)[j]? ↔ a = b := by
  rw [numK_at hi, numK_at hj]
  exact ⟨fun e => ixG_inj (dd_mem (List.mem_of_getElem? hi)) (dd_mem (List.mem_of_getElem? hj)) (Option.some.inj e), fun e => by rw [e]⟩
/-- the smaller numbers stand before -/
theorem numK_fo {ks : List α} {i : Nat} {v : Nat} (h : (numK ks)[i]? = some v) : ∀ u, u < v → ∃ j, j < i ∧ (numK ks)[j]? = some u := by
  intro u hu
  obtain ⟨k, hk, rfl⟩ : ∃ k, ks[i]? = some k ∧ ixG k (dd [] ks) = v := by
    unfold numK at h
    rw [List.getElem?_map] at h
    obtain ⟨k, a, b⟩ := Option.map_eq_some_iff.mp h
    exact ⟨k, a, b⟩
  -- the different ones of what stands before i and k itself
  have split : ks = ks.take i ++ (ks.drop i) := (List.take_append_drop i ks).symm
  have dr : ks.drop i = k :: ks.drop (i + 1) := List.drop_eq_getElem?_toList_append.trans (by rw [hk]; rfl)
  obtain ⟨e, he⟩ := dd_app (ks.take i ++ [k]) (ks.drop (i + 1)) []
  have hks : ks = ks.take i ++ [k] ++ ks.drop (i + 1) := by
    rw [List.append_assoc]
    conv => lhs; rw [split, dr]
    rfl
  rw [← hks, dd_snoc] at he
  -- u is the place of one that stands before
  have key : ∃ x ∈ ks.take i, ixG x (dd [] ks) = u := by
    by_cases c : k ∈ dd [] (ks.take i)
    · rw [if_pos c] at he
      rw [he, ixG_app e c] at hu
      have lt : u < (dd [] (ks.take i)).length := Nat.lt_trans hu (ixG_lt c)
      have hx := List.getElem?_eq_getElem lt
      generalize (dd [] (ks.take i))[u] = x at hx
      have xm := List.mem_of_getElem? hx
      refine ⟨x, (dd_sub xm).elim (fun h => nomatch h) id, ?_⟩
      rw [he, ixG_app e xm]
      have nd := dd_nd (ks.take i) [] List.nodup_nil
      have a := ixG_at xm
      exact ((List.getElem?_inj lt nd).mp (hx.trans a.symm)).symm
    · rw [if_neg c] at he
      rw [he, List.append_assoc, show [k] ++ e = k :: e from rfl, ixG_new e c] at hu
      have hx := List.getElem?_eq_getElem hu
      generalize (dd [] (ks.take i))[u] = x at hx
      have xm := List.mem_of_getElem? hx
      refine ⟨x, (dd_sub xm).elim (fun h => nomatch h) id, ?_⟩
      rw [he, List.append_assoc, ixG_app _ xm]
      have nd := dd_nd (ks.take i) [] List.nodup_nil
      have a := ixG_at xm
      exact ((List.getElem?_inj hu nd).mp (hx.trans a.symm)).symm
  obtain ⟨x, hx, ex⟩ := key
  obtain ⟨j, hj⟩ := List.mem_iff_getElem?.mp hx
  have ji : j < i := by
    have := (List.getElem?_eq_some_iff.mp hj).1
    rw [List.length_take] at this
    omega
  refine ⟨j, ji, ?_⟩
  rw [List.getElem?_take_of_lt ji] at hj
  rw [numK_at hj, ex]
end
/-! ### the classes of the rows -/
def ptI (f : Nat → Nat) : Itm → Itm
  | .nd i => .nd (f i)
  | it => it
def ptRow (cls : List Nat) (row : List Itm) : List Itm := row.map (ptI fun i => cls.getD i 0)
def fin (R : List (List Itm)) (cls : List Nat) : List Nat := numK (R.map (ptRow cls))
def clsN (R : List (List Itm)) : Nat → List Nat
  | 0 => List.replicate R.length 0
  | k + 1 => fin R (clsN R k)
theorem fin_len (R : List (List Itm)) (cls : List Nat) : (fin R cls).length = R.length := by unfold fin; rw [numK_len, List.length_map]
theorem clsN_len (R : List (List Itm)) : ∀ k, (clsN R k).length = R.length
  | 0 => List.length_replicate
  | k + 1 => fin_len R _
/-- the nodes lead to rows -/
def NdOk (R : List (List Itm)) : Prop := ∀ r ∈ R, ∀ i, Itm.nd i ∈ r → i < R.length
/-- c' parts what c parts -/
def Ref (n : Nat) (c' c : List Nat) : Prop := ∀ i j, i < n → j < n → c'[i]? = c'[j]? → c[i]? = c[j]?
theorem getD_eq {c : List Nat} {n i j : Nat} (l : c.length = n) (hi : i < n) (hj : j < n) : c.getD i 0 = c.getD j 0 ↔ c[i]? = c[j]? := by
  rw [List.getD_eq_getElem?_getD, List.getD_eq_getElem?_getD, List.getElem?_eq_getElem (show i < c.length by omega), List.getElem?_eq_getElem (show j < c.length by omega)]
  simp
theorem pt_ref {n : Nat} {c' c : List Nat} (l' : c'.length = n) (l : c.length = n) (rf : Ref n c' c) : ∀ {r1 r2 : List Itm}, (∀ i, Itm.nd i ∈ r1 → i < n) → (∀ i, Itm.nd i ∈ r2 → i < n) → ptRow c' r1 = ptRow c' r2 → ptRow c r1 = ptRow c r2
  | [], [], _, _, _ => rfl
  | [], b :: r2, _, _, h => by unfold ptRow at h; simp at h
  | a :: r1, [], _, _, h => by unfold ptRow at h; simp at h
  | a :: r1, b :: r2, h1, h2, h => by
    unfold ptRow at h ⊢
    rw [List.map_cons, List.map_cons, List.cons.injEq] at h
    rw [List.map_cons, List.map_cons]
    have ih := pt_ref l' l rf (r1 := r1) (r2 := r2) (fun i m => h1 i (List.mem_cons_of_mem _ m)) (fun i m => h2 i (List.mem_cons_of_mem _ m)) h.2
    unfold ptRow at ih
    rw [ih]
    congr 1
    cases a <;> cases b <;> first
      | exact h.1
      | (exfalso; have q := h.1; simp [ptI] at q; done)
      | skip
    rename_i x y
    have q := h.1
    simp only [ptI, Itm.nd.injEq] at q ⊢
    have hx := h1 x List.mem_cons_self
    have hy := h2 y List.mem_cons_self
    exact (getD_eq l hx hy).mpr (rf x y hx hy ((getD_eq l' hx hy).mp q))
theorem fin_eq {R : List (List Itm)} {cls : List Nat} {i j : Nat} {r1 r2 : List Itm} (hi : R[i]? = some r1) (hj : R[j]? = some r2) : (fin R cls)[i]? = (fin R cls)[j]? ↔ ptRow cls r1 = ptRow cls r2 :=
  numK_eq (by rw [List.getElem?_map, hi]; rfl) (by rw [List.getElem?_map, hj]; rfl)
theorem fin_ref {R : List (List Itm)} (ok : NdOk R) {c' c : List Nat} (l' : c'.length = R.length) (l : c.length = R.length) (rf : Ref R.length c' c) : Ref R.length (fin R c') (fin R c) := fun i j hi hj h => by
  have h1 := List.getElem?_eq_getElem hi
  have h2 := List.getElem?_eq_getElem hj
  exact (fin_eq h1 h2).mpr (pt_ref l' l rf (fun x m => ok _ (List.getElem_mem hi) x m) (fun x m => ok _ (List.getElem_mem hj) x m) ((fin_eq h1 h2).mp h))
theorem cls_ref {R : List (List Itm)} (ok : NdOk R) : ∀ k, Ref R.length (clsN R (k + 1)) (clsN R k)
  | 0 => fun i j hi hj _ => by
    show (List.replicate R.length 0)[i]? = (List.replicate R.length 0)[j]?
    rw [List.getElem?_replicate, List.getElem?_replicate, if_pos hi, if_pos hj]
  | k + 1 => fin_ref ok (clsN_len R _) (clsN_len R _) (cls_ref ok k)
/-- numbers by the first occurrence -/
def Fo (c : List Nat) : Prop := ∀ (i v : Nat), c[i]? = some v → ∀ u, u < v → ∃ j, j < i ∧ c[j]? = some u
theorem cls_fo (R : List (List Itm)) : ∀ k, Fo (clsN R k)
  | 0 => fun i v h u hu => by
    have h : (List.replicate R.length 0)[i]? = some v := h
    rw [List.getElem?_replicate] at h
    by_cases c : i < R.length
    · rw [if_pos c] at h; cases h; omega
    · rw [if_neg c] at h; cases h
  | k + 1 => fun i v h u hu => numK_fo h u hu
/-- the same parts, the same numbers -/
theorem fo_same {n : Nat} {c c' : List Nat} (l : c.length = n) (l' : c'.length = n) (f : Fo c) (f' : Fo c') (h : ∀ i j, i < n → j < n → (c[i]? = c[j]? ↔ c'[i]? = c'[j]?)) : ∀ i, i < n → c[i]? = c'[i]? := by
  intro i
  induction i using Nat.strongRecOn with
  | _ i ih =>
    intro hi
    have hv := List.getElem?_eq_getElem (show i < c.length by omega)
    have hv' := List.getElem?_eq_getElem (show i < c'.length by omega)
    generalize c[i] = v at hv
    generalize c'[i] = v' at hv'
    rw [hv, hv']
    rcases Nat.lt_trichotomy v v' with q | q | q
    · exfalso
      obtain ⟨j, hj, e⟩ := f' i v' hv' v q
      have e2 := ih j hj (by omega)
      have e3 : c[j]? = c[i]? := by rw [e2, e, hv]
      have e4 := (h j i (by omega) hi).mp e3
      rw [e, hv'] at e4
      have := Option.some.inj e4
      omega
    · rw [q]
    · exfalso
      obtain ⟨j, hj, e⟩ := f i v hv v' q
      have e2 := ih j hj (by omega)
      have e3 : c'[j]? = c'[i]? := by rw [← e2, e, hv']
      have e4 := (h j i (by omega) hi).mpr e3
      rw [e, hv] at e4
      have := Option.some.inj e4
      omega
/-- how many classes: the places where one stands first -/
def isF (c : List Nat) (i : Nat) : Bool := (List.range i).all fun j => !decide (c[j]? = c[i]?)
theorem isF_iff {c : List Nat} {i : Nat} : isF c i = true ↔ ∀ j, j < i → c[j]? ≠ c[i]? := by
  unfold isF
  rw [List.all_eq_true]
  constructor
  · intro h j hj e
    have := h j (List.mem_range.mpr hj)
    rw [decide_eq_true e] at this
    cases this
  · intro h j hj
    rw [decide_eq_false (h j (List.mem_range.mp hj))]; rfl
def cnt (n : Nat) (c : List Nat) : Nat := (List.range n).countP (isF c)
theorem countP_mono {α : Type} {p q : α → Bool} : ∀ {l : List α}, (∀ x ∈ l, p x = true → q x = true) → l.countP p ≤ l.countP q
  | [], _ => Nat.le_refl _
  | x :: l, h => by
    have ih := countP_mono (l := l) fun y hy => h y (List.mem_cons_of_mem _ hy)
    by_cases c : p x = true
    · rw [List.countP_cons_of_pos c, List.countP_cons_of_pos (h x List.mem_cons_self c)]; omega
    · rw [List.countP_cons_of_neg c]
      by_cases d : q x = true
      · rw [List.countP_cons_of_pos d]; omega
      · rw [List.countP_cons_of_neg d]; exact ih
theorem countP_lt {α : Type} {p q : α → Bool} : ∀ {l : List α}, (∀ x ∈ l, p x = true → q x = true) → (∃ x ∈ l, p x = false ∧ q x = true) → l.countP p < l.countP q
  | [], _, h => by obtain ⟨x, hx, _⟩ := h; cases hx
  | x :: l, h, w => by
    have mono := countP_mono (l := l) fun y hy => h y (List.mem_cons_of_mem _ hy)
    obtain ⟨y, hy, py, qy⟩ := w
    rcases List.mem_cons.mp hy with e | hy
    · subst e
      rw [List.countP_cons_of_neg (by rw [py]; decide), List.countP_cons_of_pos qy]; omega
    · have ih := countP_lt (l := l) (fun y hy => h y (List.mem_cons_of_mem _ hy)) ⟨y, hy, py, qy⟩
      by_cases c : p x = true
      · rw [List.countP_cons_of_pos c, List.countP_cons_of_pos (h x List.mem_cons_self c)]; omega
      · rw [List.countP_cons_of_neg c]
        by_cases d : q x = true
        · rw [List.countP_cons_of_pos d]; omega
        · rw [List.countP_cons_of_neg d]; exact ih
theorem cnt_le (n : Nat) (c : List Nat) : cnt n c ≤ n := by
  have := List.countP_le_length (p := isF c) (l := List.range n)
  rw [List.length_range] at this
  exact this
/-- the first place of the class of i -/
theorem first_of (c : List Nat) : ∀ i, ∃ a, a ≤ i ∧ c[a]? = c[i]? ∧ isF c a = true := by
  intro i
  induction i using Nat.strongRecOn with
  | _ i ih =>
    by_cases h : isF c i = true
    · exact ⟨i, Nat.le_refl _, rfl, h⟩
    · have : ∃ j, j < i ∧ c[j]? = c[i]? := by
        apply Classical.byContradiction
        intro no
        exact h (isF_iff.mpr fun j hj e => no ⟨j, hj, e⟩)
      obtain ⟨j, hj, e⟩ := this
      obtain ⟨a, ha, e2, f⟩ := ih j hj
      exact ⟨a, by omega, e2.trans e, f⟩
theorem cnt_lt {n : Nat} {c c' : List Nat} (l : c.length = n) (l' : c'.length = n) (f : Fo c) (f' : Fo c') (rf : Ref n c' c) (ne : c' ≠ c) : cnt n c < cnt n c' := by
  unfold cnt
  refine countP_lt (fun i hi p => ?_) ?_
  · have hi := List.mem_range.mp hi
    exact isF_iff.mpr fun j hj e => isF_iff.mp p j hj (rf j i (by omega) hi e)
  · -- two of one class of c, that are apart in c'
    have ex : ∃ i j, i < n ∧ j < n ∧ c[i]? = c[j]? ∧ c'[i]? ≠ c'[j]? := by
      apply Classical.byContradiction
      intro no
      apply ne
      apply List.ext_getElem?
      intro i
      by_cases hi : i < n
      · refine (fo_same l l' f f' (fun i j hi hj => ⟨fun e => ?_, fun e => rf i j hi hj e⟩) i hi).symm
        apply Classical.byContradiction
        intro q
        exact no ⟨i, j, hi, hj, e, q⟩
      · rw [List.getElem?_eq_none (by omega), List.getElem?_eq_none (by omega)]
    obtain ⟨i, j, hi, hj, e, q⟩ := ex
    obtain ⟨a, ai, ea, fa⟩ := first_of c' i
    obtain ⟨b, bj, eb, fb⟩ := first_of c' j
    have ca : c[a]? = c[i]? := rf a i (by omega) hi ea
    have cb : c[b]? = c[j]? := rf b j (by omega) hj eb
    have ab : a ≠ b := fun z => q (by rw [← ea, ← eb, z])
    have cab : c[a]? = c[b]? := by rw [ca, cb, e]
    rcases Nat.lt_or_gt_of_ne ab with h | h
    · refine ⟨b, List.mem_range.mpr (by omega), ?_, fb⟩
      cases z : isF c b with
      | false => rfl
      | true => exact absurd cab (isF_iff.mp z a h)
    · refine ⟨a, List.mem_range.mpr (by omega), ?_, fa⟩
      cases z : isF c a with
      | false => rfl
      | true => exact absurd cab.symm (isF_iff.mp z b h)
/-- after as many rounds as there are rows nothing changes -/
theorem cls_step {R : List (List Itm)} (ok : NdOk R) (k : Nat) (ne : clsN R (k + 1) ≠ clsN R k) : cnt R.length (clsN R k) < cnt R.length (clsN R (k + 1)) :=
  cnt_lt (clsN_len R k) (clsN_len R (k + 1)) (cls_fo R k) (cls_fo R (k + 1)) (cls_ref ok k) ne
theorem cls_stay {R : List (List Itm)} {k : Nat} (h : clsN R (k + 1) = clsN R k) : ∀ m, clsN R (k + m) = clsN R k
  | 0 => rfl
  | m + 1 => by
    show fin R (clsN R (k + m)) = _
    rw [cls_stay h m]
    exact h
theorem cls_grow {R : List (List Itm)} (ok : NdOk R) : ∀ k, (∀ m, m < k → clsN R (m + 1) ≠ clsN R m) → k ≤ cnt R.length (clsN R k)
  | 0, _ => Nat.zero_le _
  | k + 1, h => by
    have a := cls_grow ok k fun m hm => h m (by omega)
    have b := cls_step ok k (h k (by omega))
    omega
/-- the classes that stay -/
def clsE (R : List (List Itm)) : List Nat := clsN R R.length
theorem cls_end {R : List (List Itm)} (ok : NdOk R) : clsN R (R.length + 1) = clsE R := by
  apply Classical.byContradiction
  intro ne
  have all : ∀ m, m ≤ R.length → clsN R (m + 1) ≠ clsN R m := fun m hm e => by
    apply ne
    have a := cls_stay e (R.length + 1 - m)
    have b := cls_stay e (R.length - m)
    rw [show m + (R.length + 1 - m) = R.length + 1 by omega] at a
    rw [show m + (R.length - m) = R.length by omega] at b
    rw [a]
    exact b.symm
  have g := cls_grow ok (R.length + 1) fun m hm => all m (by omega)
  have l := cnt_le R.length (clsN R (R.length + 1))
  omega
theorem cls_fix {R : List (List Itm)} (ok : NdOk R) {k : Nat} (h : clsN R (k + 1) = clsN R k) : clsN R k = clsE R := by
  rcases Nat.le_total k R.length with q | q
  · have a := cls_stay h (R.length - k)
    rw [show k + (R.length - k) = R.length by omega] at a
    exact a.symm
  · have a := cls_stay (show clsN R (R.length + 1) = clsN R R.length from cls_end ok) (k - R.length)
    rw [show R.length + (k - R.length) = k by omega] at a
    exact a
def nds (row : List Itm) : List Nat := row.filterMap fun it => match it with | .nd i => some i | _ => none
theorem nds_snoc_nd (r : List Itm) (i : Nat) : nds (r ++ [.nd i]) = nds r ++ [i] := by unfold nds; rw [List.filterMap_append]; rfl
theorem nds_snoc_no {it : Itm} (r : List Itm) (h : ¬ ∃ i, it = .nd i) : nds (r ++ [it]) = nds r := by
  unfold nds
  rw [List.filterMap_append]
  cases it with
  | nd i => exact absurd ⟨i, rfl⟩ h
  | _ => simp
theorem nds_mem {row : List Itm} {i : Nat} : i ∈ nds row ↔ Itm.nd i ∈ row := by
  unfold nds
  rw [List.mem_filterMap]
  constructor
  · rintro ⟨it, h, e⟩
    cases it with
    | nd j => cases e; exact h
    | _ => cases e
  · intro h; exact ⟨_, h, rfl⟩
/-! ### the rows that are found, and their numbers -/
def cl (c : List Nat) (i : Nat) : Nat := c.getD i 0
def visN (c : List Nat) : List Nat → List Nat → List Nat
  | fd, [] => fd
  | fd, i :: is => visN c (if cl c i ∈ fd.map (cl c) then fd else fd ++ [i]) is
def growN (R : List (List Itm)) (c : List Nat) : Nat → Nat → List Nat → List Nat
  | 0, _, fd => fd
  | n + 1, at_, fd => match fd[at_]? with
    | none => fd
    | some i => growN R c n (at_ + 1) (visN c fd (nds (R.getD i [])))
def foundN (R : List (List Itm)) (c : List Nat) (st : Nat) : List Nat := growN R c (R.length + 1) 0 [st]
def numRow (c fd : List Nat) (row : List Itm) : List Itm := row.map (ptI fun j => ixG (cl c j) (fd.map (cl c)))
/-- the rows of the result of row st -/
def canonN (R : List (List Itm)) (st : Nat) : List (List Itm) := (foundN R (clsE R) st).map fun i => numRow (clsE R) (foundN R (clsE R) st) (R.getD i [])
/-- what is found: each class once -/
structure FdOk (n : Nat) (c fd : List Nat) : Prop where
  nd : (fd.map (cl c)).Nodup
  lt : ∀ i ∈ fd, i < n
theorem nodup_of_map {α β : Type} {f : α → β} : ∀ {xs : List α}, (xs.map f).Nodup → xs.Nodup
  | [], _ => List.nodup_nil
  | x :: xs, h => by
    rw [List.map_cons, List.nodup_cons] at h
    exact List.nodup_cons.mpr ⟨fun m => h.1 (List.mem_map.mpr ⟨x, m, rfl⟩), nodup_of_map h.2⟩
theorem FdOk.few {n : Nat} {c fd : List Nat} (F : FdOk n c fd) : fd.length ≤ n := by
  have q := nodup_le (nodup_of_map F.nd) (m := List.range n) fun i hi => List.mem_range.mpr (F.lt i hi)
  rw [List.length_range] at q
  exact q
theorem FdOk.put {n : Nat} {c fd : List Nat} (F : FdOk n c fd) {i : Nat} (hi : i < n) : FdOk n c (if cl c i ∈ fd.map (cl c) then fd else fd ++ [i]) := by
  by_cases h : cl c i ∈ fd.map (cl c)
  · rw [if_pos h]; exact F
  · rw [if_neg h]
    refine ⟨?_, fun j hj => ?_⟩
    · rw [List.map_append, List.nodup_append]
      exact ⟨F.nd, List.nodup_cons.mpr ⟨by simp, List.nodup_nil⟩, fun a ha b hb e => h (by
        have hb : b = cl c i := List.mem_singleton.mp hb
        rw [← hb, ← e]; exact ha)⟩
    · rcases List.mem_append.mp hj with q | q
      · exact F.lt j q
      · rw [List.mem_singleton.mp q]; exact hi
theorem put_pre (c fd : List Nat) (i : Nat) : ∃ e, (if cl c i ∈ fd.map (cl c) then fd else fd ++ [i]) = fd ++ e := by
  by_cases h : cl c i ∈ fd.map (cl c)
  · exact ⟨[], by rw [if_pos h, List.append_nil]⟩
  · exact ⟨[i], by rw [if_neg h]⟩
theorem put_mem (c fd : List Nat) (i : Nat) : cl c i ∈ (if cl c i ∈ fd.map (cl c) then fd else fd ++ [i]).map (cl c) := by
  by_cases h : cl c i ∈ fd.map (cl c)
  · rw [if_pos h]; exact h
  · rw [if_neg h, List.map_append]; exact List.mem_append_right _ (List.mem_singleton.mpr rfl)
theorem visN_snoc (c : List Nat) : ∀ (is fd : List Nat) (i : Nat), visN c fd (is ++ [i]) = (if cl c i ∈ (visN c fd is).map (cl c) then visN c fd is else visN c fd is ++ [i])
  | [], fd, i => rfl
  | j :: is, fd, i => visN_snoc c is _ i
theorem growN_succ (R : List (List Itm)) (c : List Nat) (n at_ : Nat) (fd : List Nat) : growN R c (n + 1) at_ fd = match fd[at_]? with
    | none => fd
    | some i => growN R c n (at_ + 1) (visN c fd (nds (R.getD i []))) := rfl
end Mf
/-! dicts of whole numbers, keyed by tuples of tuples -/
namespace Mf
open PySem PySem.Spec PyProof.Rows L2
mutual
/-- the value v is the key k -/
inductive NKv (K : PySem.W.Frag) (H : Hp) : NestedKey → V → Prop
  | int (i : Int) : NKv K H (.num i) (.int i)
  | str (z : Str) : NKv K H (.text z) (.str z)
  | tup {a : Addr} {vs : List V} {ks : List NestedKey} : SqT K H a vs → NKall K H ks vs → NKv K H (.tup ks) (.ref a)
inductive NKall (K : PySem.W.Frag) (H : Hp) : List NestedKey → List V → Prop
  | nil : NKall K H [] []
  | cons {k : NestedKey} {v : V} {ks : List NestedKey} {vs : List V} : NKv K H k v → NKall K H ks vs → NKall K H (k :: ks) (v :: vs)
end
mutual
theorem NKv.mv {K : PySem.W.Frag} {H H' : Hp} (f : ∀ a vs, SqT K H a vs → SqT K H' a vs) : ∀ {k : NestedKey} {v : V}, NKv K H k v → NKv K H' k v
  | _, _, .int i => .int i
  | _, _, .str z => .str z
  | _, _, .tup s t => .tup (f _ _ s) (NKall.mv f t)
theorem NKall.mv {K : PySem.W.Frag} {H H' : Hp} (f : ∀ a vs, SqT K H a vs → SqT K H' a vs) : ∀ {ks : List NestedKey} {vs : List V}, NKall K H ks vs → NKall K H' ks vs
  | _, _, .nil => .nil
  | _, _, .cons a b => .cons (NKv.mv f a) (NKall.mv f b)
end
mutual
theorem NKv.is {X : Cx} {pins : List (Addr × Obj)} {σ : L2.St} {H : Hp} {s : Shared} (I : Inv X pins σ H s) : ∀ {k : NestedKey} {v : V} {u : Value}, NKv X.K H k v → RelV v u → NestedIs s.heap k u
  | _, _, u, .int i, r => by obtain ⟨t, rfl⟩ := (show ∃ t, u = .int i t from r); exact .int i t
  | _, _, u, .str z, r => by obtain ⟨t, rfl⟩ := (show ∃ t, u = .str z t from r); exact .text z t
  | _, _, u, .tup (a := a) sq al, r => by
    obtain rfl : u = .ref a := r
    obtain ⟨its, rv, ⟨o, ho, hc, n, hd⟩, _⟩ := I.tuple sq
    exact .tup ho hc hd (by simpa using NKall.is I al rv)
theorem NKall.is {X : Cx} {pins : List (Addr × Obj)} {σ : L2.St} {H : Hp} {s : Shared} (I : Inv X pins σ H s) : ∀ {ks : List NestedKey} {vs : List V} {us : List Value}, NKall X.K H ks vs → Vals vs us → NestedAll s.heap ks us
  | _, _, _, .nil, r => by cases r; exact .nil
  | _, _, _, .cons a b, r => by
    cases r with
    | cons r1 r2 => exact .cons (NKv.is I a r1) (NKall.is I b r2)
end
abbrev NE := NestedKey × Addr × Int
/-- what stands at a dict's own object -/
def NDo (P : Program) (w : World) (a : Addr) (kvs : List NE) : HO := .ext fun h => (a == sysModules) = false ∧ kvs.length ≤ sizeLine ∧ ∃ (q : Obj) (es : Array DictEntry) (ep : Nat) (xs : List (NestedKey × Addr × Value)), h.get? a = some q ∧ q.ExactDict ∧ q.data = .dict es ep ∧
  es.toList = xs.map (entryOfKey (nestedKind P w)) ∧ (xs.map (·.1)).Nodup ∧ Paired (fun (kv : NE) (x : NestedKey × Addr × Value) => kv.1 = x.1 ∧ kv.2.1 = x.2.1 ∧ ∃ t, x.2.2 = Value.int kv.2.2 t) kvs xs
/-- a dict keyed by tuples of tuples stands at a -/
structure NDict (P : Program) (w : World) (K : PySem.W.Frag) (H : Hp) (a : Addr) (kvs : List NE) : Prop where
  o : H a = some (NDo P w a kvs)
  k : ∀ kv ∈ kvs, NKv K H kv.1 (.ref kv.2.1) ∧ kv.1.depth ≤ 8
section
variable {X : Cx} {pins : List (Addr × Obj)} {σ : L2.St} {H : Hp} {s : Shared} {a : Addr} {kvs : List NE}
theorem nd_of (I : Inv X pins σ H s) (N : NDict X.prog X.w X.K H a kvs) : (a == sysModules) = false ∧ kvs.length ≤ sizeLine ∧ ∃ xs, s.heap.DictOfH (nestedKind X.prog X.w) a xs ∧ Paired (fun (kv : NE) (x : NestedKey × Addr × Value) => kv.1 = x.1 ∧ kv.2.1 = x.2.1 ∧ ∃ t, x.2.2 = Value.int kv.2.2 t) kvs xs := by
  obtain ⟨⟨hs, hl, q, es, ep, xs, h1, h2, h3, h4, h5, pr⟩, _, _⟩ := (show ObjOk X.prog X.w H s.heap a (NDo X.prog X.w a kvs) from I.hok a _ N.o)
  refine ⟨hs, hl, xs, ⟨q, es, ep, h1, h2, h3, h4, ?_, h5⟩, pr⟩
  have all : ∀ {l : List NE} {m : List (NestedKey × Addr × Value)}, Paired (fun (kv : NE) (x : NestedKey × Addr × Value) => kv.1 = x.1 ∧ kv.2.1 = x.2.1 ∧ ∃ t, x.2.2 = Value.int kv.2.2 t) l m → (∀ kv ∈ l, NKv X.K H kv.1 (.ref kv.2.1) ∧ kv.1.depth ≤ 8) → ∀ x ∈ m, (nestedKind X.prog X.w).is s.heap x.1 x.2.1 := by
    intro l m r
    induction r with
    | nil => intro _ x hx; cases hx
    | @cons p q ps qs hq _ ih =>
      intro hk x hx
      rcases List.mem_cons.mp hx with e | hx
      · subst e
        obtain ⟨n1, n2⟩ := hk p List.mem_cons_self
        exact ⟨by rw [← hq.1, ← hq.2.1]; exact NKv.is I n1 rfl, by rw [← hq.1]; exact n2⟩
      · exact ih (fun kv h => hk kv (List.mem_cons_of_mem _ h)) x hx
  exact all pr N.k
/-- what the dict holds at a key -/
def atN (kvs : List NE) (k : NestedKey) : Option Int := (kvs.find? fun kv => decide (kv.1 = k)).map (·.2.2)
theorem atN_rel {kvs : List NE} {xs : List (NestedKey × Addr × Value)} (r : Paired (fun (kv : NE) (x : NestedKey × Addr × Value) => kv.1 = x.1 ∧ kv.2.1 = x.2.1 ∧ ∃ t, x.2.2 = Value.int kv.2.2 t) kvs xs) (k : NestedKey) :
    (atN kvs k = none ∧ atKey xs k = none) ∨ ∃ n b t, atN kvs k = some n ∧ atKey xs k = some (b, .int n t) := by
  induction r with
  | nil => exact .inl ⟨rfl, rfl⟩
  | @cons p q ps qs hq _ ih =>
    unfold atN atKey at ih ⊢
    obtain ⟨h1, h2, t, h3⟩ := hq
    by_cases e : p.1 = k
    · have e2 : q.1 = k := by rw [← h1]; exact e
      rw [List.find?_cons_of_pos (p := fun kv : NE => decide (kv.1 = k)) (decide_eq_true e), List.find?_cons_of_pos (p := fun x : NestedKey × Addr × Value => decide (x.1 = k)) (decide_eq_true e2)]
      refine .inr ⟨p.2.2, q.2.1, t, rfl, ?_⟩
      show some q.2 = _
      rw [← h3]
    · have e2 : ¬ q.1 = k := by rw [← h1]; exact e
      rw [List.find?_cons_of_neg (p := fun kv : NE => decide (kv.1 = k)) (by rw [decide_eq_false e]; decide), List.find?_cons_of_neg (p := fun x : NestedKey × Addr × Value => decide (x.1 = k)) (by rw [decide_eq_false e2]; decide)]
      exact ih
/-- {}, to be such a dict -/
def tNDNew (P : Program) (w : World) : TE := fun _ H Q => ∀ p, H p = none → Q (.ref p) (upd H p (NDo P w p []))
theorem nd_empty {P : Program} {w : World} {H : Hp} (h : Heap) (hb : sysModules < h.objs.size) : ObjOk P w H (h.push { cls := .type "dict", data := .dict #[] }) h.objs.size (NDo P w h.objs.size []) := by
  refine ⟨⟨beq_eq_false_iff_ne.mpr (Ne.symm (Nat.ne_of_lt hb)), Nat.zero_le _, _, #[], 0, [], Heap.get?_push_size _ rfl, ⟨rfl, rfl, rfl⟩, rfl, rfl, List.nodup_nil, .nil⟩, ⟨_, Heap.get?_push_size _ rfl⟩, ?_⟩
  rintro h1 h2 ⟨a1, a2, q, es, ep, xs, b1, b2⟩ st
  exact ⟨a1, a2, q, es, ep, xs, st _ b1, b2⟩
theorem pe_ndnew {pos : Pos} : PE X (.Dict [] [] pos) (tNDNew X.prog X.w) := ⟨fun pins s σ H Q I h =>
  wpAny_Dict_empty ⟨.ref s.heap.objs.size, _, I.laid (a := s.heap.objs.size) (o := NDo X.prog X.w s.heap.objs.size []) (t' := s.toks) (fun _ _ q => Heap.get?_push_of_some _ q) (Nat.le_refl _) (nd_empty s.heap I.big), rfl, h _ (I.hok.fresh (Nat.le_refl _))⟩⟩
def tNDNotIn (P : Program) (w : World) (K : PySem.W.Frag) (ty td : TE) : TE := fun σ H Q => ty σ H fun y H1 => td σ H1 fun x H2 => ∃ a kvs k b, x = .ref a ∧ y = .ref b ∧ NDict P w K H2 a kvs ∧ NKv K H2 k (.ref b) ∧ k.depth ≤ 8 ∧ Q (.bl (!(atN kvs k).isSome)) H2
theorem pc_ndnotin {i o : Expr} {ty td : TE} (hu : X.A.units + 9 < cLine) (hi : PE X i ty) (ho : PE X o td) : PC X .NotIn i o (tNDNotIn X.prog X.w X.K ty td) := by
  refine ⟨fun pins s σ H Q I h => ?_⟩
  refine thn (hi.run pins s σ H _ I h) fun iv s1 ⟨y, H1, I1, ry, q1⟩ => thn (ho.run pins s1 σ H1 _ I1 q1) fun u s2 ⟨x, H2, I2, rx, a, kvs, k, b, ex, ey, N, nk, dp, q2⟩ => ?_
  subst ex ey
  obtain rfl : u = Value.ref a := rx
  obtain rfl : iv = Value.ref b := ry
  obtain ⟨hs, hl, xs, dd, pr⟩ := nd_of I2 N
  refine wpAny_notIn_heap (knd := nestedKind X.prog X.w) (show X.A.in1.units + 8 < cLine by show X.A.units + 1 + 8 < cLine; omega) (show (nestedKind X.prog X.w).is s2.heap k b from ⟨NKv.is I2 nk rfl, dp⟩) hs dd ?_
  have e : (atKey xs k).isSome = (atN kvs k).isSome := by
    rcases atN_rel pr k with ⟨e1, e2⟩ | ⟨n, b', t, e1, e2⟩
    · rw [e1, e2]; rfl
    · rw [e1, e2]; rfl
  rw [e]
  exact ⟨.bl (!(atN kvs k).isSome), H2, I2.tok _, rfl, q2⟩
def tNDGet (P : Program) (w : World) (K : PySem.W.Frag) (td ty : TE) : TE := fun σ H Q => td σ H fun x H1 => ty σ H1 fun y H2 => ∃ a kvs k b n, x = .ref a ∧ y = .ref b ∧ NDict P w K H2 a kvs ∧ NKv K H2 k (.ref b) ∧ k.depth ≤ 8 ∧ atN kvs k = some n ∧ Q (.int n) H2
theorem pe_ndget {o i : Expr} {td ty : TE} {pos : Pos} (hu : X.A.units + 9 < cLine) (ho : PE X o td) (hi : PE X i ty) (hs : NoSl i) : PE X (.Subscript o i pos) (tNDGet X.prog X.w X.K td ty) := by
  refine ⟨fun pins s σ H Q I h => ?_⟩
  refine subD_of PySem.F.slot_dict_getitem.lookup hs (thn (ho.run pins s σ H _ I h) fun u s1 ⟨x, H1, I1, rx, q1⟩ => thn (hi.run pins s1 σ H1 _ I1 q1) fun iv s2 ⟨y, H2, I2, ry, a, kvs, k, b, n, ex, ey, N, nk, dp, e, q2⟩ => ?_)
  subst ex ey
  obtain rfl : u = Value.ref a := rx
  obtain rfl : iv = Value.ref b := ry
  obtain ⟨hs', hl, xs, dd, pr⟩ := nd_of I2 N
  rcases atN_rel pr k with ⟨e1, _⟩ | ⟨n', b', t, e1, e2⟩
  · rw [e] at e1; cases e1
  · rw [e] at e1; cases e1
    refine ⟨dd.typeIs, ?_⟩
    refine wpAny_getItem_heap (knd := nestedKind X.prog X.w) (show X.A.in1.units + 8 < cLine by show X.A.units + 1 + 8 < cLine; omega) (show (nestedKind X.prog X.w).is s2.heap k b from ⟨NKv.is I2 nk rfl, dp⟩) dd e2 ?_
    exact ⟨.int n, H2, I2.tok _, ⟨t, rfl⟩, q2⟩
/-- d[k] = n, k not there -/
def rSetN (P : Program) (w : World) (K : PySem.W.Frag) : TSet := fun o i v H Q => ∃ a kvs k b n, o = .ref a ∧ i = .ref b ∧ v = .int n ∧ NDict P w K H a kvs ∧ NKv K H k (.ref b) ∧ k.depth ≤ 8 ∧ atN kvs k = none ∧ kvs.length < sizeLine ∧ Q (upd H a (NDo P w a (kvs ++ [(k, b, n)])))
theorem set_nd (hu : X.A.units + 9 < cLine) : PSet X (rSetN X.prog X.w X.K) := by
  intro pins s σ H o i v ov iv u Q I ro ri rv h
  obtain ⟨a, kvs, k, b, n, eo, ei, ev, N, nk, dp, e, lt, q⟩ := h
  subst eo ei ev
  cases (show ov = Value.ref a from ro)
  cases (show iv = Value.ref b from ri)
  obtain ⟨t, rfl⟩ := (show ∃ t, u = Value.int n t from rv)
  obtain ⟨hs', hl, xs, dd, pr⟩ := nd_of I N
  have hz : xs.length ≤ sizeLine := by rw [← Paired.length pr]; exact hl
  rcases atN_rel pr k with ⟨_, e2⟩ | ⟨n', b', t', e1, _⟩
  · refine wpAny_setItem_heap (knd := nestedKind X.prog X.w) (hsz := hz) (show X.A.in1.units + 8 < cLine by show X.A.units + 1 + 8 < cLine; omega) (show (nestedKind X.prog X.w).is s.heap k b from ⟨NKv.is I nk rfl, dp⟩) dd fun h' dd' hsb => ?_
    rw [storedH_new e2] at dd'
    obtain ⟨q', es, ep, hq, h2, h3, h4, _, h5⟩ := dd'
    refine ⟨_, d_write I (ob := NDo X.prog X.w a (kvs ++ [(k, b, n)])) (by rw [N.o]; exact True.intro) hsb ⟨q', hq⟩ ⟨⟨hs', by rw [List.length_append, List.length_singleton]; omega, q', es, ep, _, hq, h2, h3, h4, h5, pr.snoc ⟨rfl, rfl, t, rfl⟩⟩, ⟨q', hq⟩, ?_⟩, q⟩
    rintro h1 h2 ⟨a1, a2, q, es, ep, xs, b1, b2⟩ st
    exact ⟨a1, a2, q, es, ep, xs, st _ b1, b2⟩
  · rw [e] at e1; cases e1
def rLenN (P : Program) (w : World) (K : PySem.W.Frag) : List V → Hp → VK → Prop := fun xs H Q => ∃ a kvs, xs = [.ref a] ∧ NDict P w K H a kvs ∧ Q (.int (kvs.length : Nat)) H
theorem call_len_nd : CallR X (.builtin "len") (rLenN X.prog X.w X.K) := by
  intro pins s σ H xs us Q I r h
  obtain ⟨p, kvs, rfl, N, q⟩ := h
  obtain ⟨u, rfl, rx⟩ := vals1 r
  obtain rfl : u = .ref p := rx
  obtain ⟨hs', hl, ys, dd, pr⟩ := nd_of I N
  have hl2 : kvs.length = ys.length := Paired.length pr
  refine call_len_dictH hs' dd (by rw [← hl2]; rw [sizeLine_eq] at hl; omega) ?_
  rw [← hl2]
  exact ⟨.int ((kvs.length : Nat) : Int), H, I.tok _, ⟨_, rfl⟩, q⟩
end
end Mf
namespace Mf
open PySem L2
/-- a row: a list or a tuple of items -/
def RowQ (K : PySem.W.Frag) (H : Hp) (v : V) (row : List Itm) : Prop := ∃ (a : Addr) (ts : List Addr), v = .ref a ∧ (SqL K H a (ts.map V.ref) ∨ SqT K H a (ts.map V.ref)) ∧ Paired (ItA K H) ts row
/-- rows: a list or a tuple of rows -/
def RowsQ (K : PySem.W.Frag) (H : Hp) (v : V) (R : List (List Itm)) : Prop := ∃ (a : Addr) (bs : List V), v = .ref a ∧ (SqL K H a bs ∨ SqT K H a bs) ∧ Paired (RowQ K H) bs R
theorem seq_same {K : PySem.W.Frag} {H H' : Hp} {a : Addr} {xs : List V} (h : SqL K H a xs ∨ SqT K H a xs) (s : Same H H') : SqL K H' a xs ∨ SqT K H' a xs := h.imp (fun z => SameL s z) fun z => s.tup z
theorem paired_at {α β : Type} {R : α → β → Prop} {xs : List α} {ys : List β} (r : Paired R xs ys) : ∀ {i : Nat} {y : β}, ys[i]? = some y → ∃ x, xs[i]? = some x ∧ R x y := by
  induction r with
  | nil => intro i y h; simp at h
  | cons a _ ih =>
    intro i y h
    cases i with
    | zero => cases h; exact ⟨_, rfl, a⟩
    | succ i => exact ih h
theorem RowQ.same {K : PySem.W.Frag} {H H' : Hp} {v : V} {row : List Itm} (x : RowQ K H v row) (s : Same H H') : RowQ K H' v row := let ⟨a, ts, e, h, p⟩ := x; ⟨a, ts, e, seq_same h s, paired_same p fun _ _ q => q.same s⟩
theorem RowsQ.same {K : PySem.W.Frag} {H H' : Hp} {v : V} {R : List (List Itm)} (x : RowsQ K H v R) (s : Same H H') : RowsQ K H' v R := let ⟨a, bs, e, h, p⟩ := x; ⟨a, bs, e, seq_same h s, paired_same p fun _ _ q => q.same s⟩
section
variable {P : Program} {w : World} {K : PySem.W.Frag} {mg : Str → Option Value} {base : Heap}
/-! ### _pointing_row, _node_indexes -/
def spPoint (K : PySem.W.Frag) : Sp := fun vs H Q _ => ∃ (v : V) (tl : Addr) (ts : List V) (row : List Itm) (f : Nat → Nat), vs = [v, .ref tl] ∧ RowQ K H v row ∧ SqL K H tl ts ∧ row.length ≤ 4000 ∧ (∀ i, Itm.nd i ∈ row → atI ts (i : Nat) = some (.int (f i : Nat))) ∧
  ∀ D H' us, H D = none → H' D = some (.lst (us.map V.ref)) → Paired (ItA K H') us (row.map (ptI f)) → Same H H' → Q (.ref D) H'
abbrev sPointing_row : Stmt := top 50
theorem scPointing_row : FnScope ["row", "targets", "item"] ["row", "targets"] (defScope sPointing_row) := ⟨rfl, rfl, rfl, by decide +kernel, rfl, by decide +kernel, by decide +kernel⟩
theorem ok_point {f : Addr} {fd : FuncData} (F : Fun K "_pointing_row" "_pointing_row" sPointing_row f fd) : FnOk P w K mg base CX0 1 f fd ["row", "targets"] (spPoint K) := by
  refine F.ok scPointing_row (fun vs H Q E h => ?_) (fun cdv A outer s H vs Q E hr h => ?_)
  · obtain ⟨v, tl, ts, row, f, rfl, _⟩ := h
    rfl
  · obtain ⟨v, tl, ts, row, f, rfl, ⟨a, us0, rfl, hq, pr⟩, ht, lr, hf, k⟩ := h
    refine ⟨_, (pss_one (ps_ret (pe_lc (own := [("item", 2)]) (g := (gName 2)) (tt := tYes) rfl scPointing_row.nd (piS K (pv 0)) (blkOk_by (own := [("item", 2)]) (N := ["row", "targets", "item"]) (sc := defScope sPointing_row) (by decide +kernel)) (fun _ _ _ _ _ => (pg_name (i := 2) scPointing_row.nd rfl (by first | exact Or.inl rfl | exact Or.inr rfl))) (fun _ _ _ _ _ => pts_nil) (fun _ _ _ _ _ => (pe_ifExp (pt_cmpR op_eq (pe_ix (ixt K) (pv 2) pe_int (fun _ _ => rfl)) pe_str (nomark _)) (pe_tup (pa_cons pe_str (pa_cons (pe_ix (ixl K) (pv 1) (pe_ix (ixt K) (pv 2) pe_int (fun _ _ => rfl)) (fun _ _ => rfl)) pa_nil))) (pv 2)))))), ?_⟩
    have sz : (5000 : Nat) < sizeLine := by decide
    have lu := Paired.length pr
    refine ⟨_, rfl, a, _, rfl, hq, fun J G wk hG D hD => ?_⟩
    refine it_any wk (fun i H' => Same H H' ∧ ∃ us : List Addr, H' D = some (.lst (us.map V.ref)) ∧ us.length = i ∧ Paired (ItA K H') us ((row.take i).map (ptI f))) ⟨Same.new hD, [], upd_same, rfl, .nil⟩ (fun i H' _ q => hG _ q.1) ?_ ?_
    · rintro i x _ H1 hi ⟨s1, us, h1, l1, p1⟩ ⟨rfl, hx⟩
      rw [List.getElem?_map] at hx
      obtain ⟨t, ht0, rfl⟩ := Option.map_eq_some_iff.mp hx
      obtain ⟨it, hit, sq⟩ := paired_get pr ht0
      rw [List.length_map, lu] at hi
      have tk : row.take (i + 1) = row.take i ++ [it] := by rw [List.take_add_one, hit]; rfl
      have sq1 : SqT K H1 t (itV it) := s1.tup sq
      refine ⟨rfl, yes_then ?_⟩
      have fin : ∀ t2 H2, Same H1 H2 → ItA K H2 t2 (ptI f it) → ∃ acc, H2 D = some (.lst acc) ∧ acc.length < sizeLine ∧ (Same H (upd H2 D (.lst (acc ++ [.ref t2]))) ∧ ∃ us : List Addr, (upd H2 D (.lst (acc ++ [.ref t2]))) D = some (.lst (us.map V.ref)) ∧ us.length = i + 1 ∧ Paired (ItA K (upd H2 D (.lst (acc ++ [.ref t2])))) us ((row.take (i + 1)).map (ptI f))) := fun t2 H2 s2 it2 => by
        have h2 := s2 _ _ h1
        have pn : SameN H2 (upd H2 D (.lst (us.map V.ref ++ [.ref t2]))) := SameN.refl.put h2
        refine ⟨_, h2, by rw [List.length_map, l1]; omega, (s1.trans s2).mut hD, us ++ [t2], by rw [upd_same, List.map_append]; rfl, by rw [List.length_append, l1]; rfl, ?_⟩
        rw [tk, List.map_append]
        exact paired_snoc (paired_same p1 fun _ _ q => (q.same s2).sameN pn) (it2.sameN pn)
      by_cases isn : ∃ j, it = .nd j
      · obtain ⟨j, rfl⟩ := isn
        refine ⟨_, rfl, t, _, (0 : Nat), _, rfl, rfl, sq1, rfl, rfl, _, rfl, ite2 (fun _ => ?_) fun e => absurd (decide_eq_true rfl) e⟩
        refine ⟨_, rfl, _, rfl, t, _, (1 : Nat), _, rfl, rfl, sq1, rfl, tl, _, (j : Nat), _, rfl, rfl, SameL s1 ht, hf j (List.mem_of_getElem? hit), (by show 2 ≤ sizeLine; decide), fun t2 nt2 => ?_⟩
        exact fin t2 _ (Same.new nt2) (.of upd_same)
      · obtain ⟨tg, rest, e1, e2⟩ := it_tag it
        have sq2 := sq1
        rw [e1] at sq2
        refine ⟨_, rfl, t, _, (0 : Nat), _, rfl, rfl, sq2, atI_nat rfl, rfl, _, rfl, ite2 (fun e => absurd (e2.mp (V.str.inj (of_decide_eq_true e))) isn) fun _ => ?_⟩
        refine ⟨_, rfl, ?_⟩
        have ep : ptI f it = it := by
          cases it with
          | nd j => exact absurd ⟨j, rfl⟩ isn
          | _ => rfl
        exact fin t H1 (Same.refl _) (by rw [ep]; exact sq1)
    · rintro H1 ⟨s1, us, h1, l1, p1⟩
      rw [List.length_map, lu, List.take_length] at p1
      exact k D H1 us hD h1 p1 s1
def spNodes (K : PySem.W.Frag) : Sp := fun vs H Q _ => ∃ (v : V) (row : List Itm), vs = [v] ∧ RowQ K H v row ∧ row.length ≤ 4000 ∧ ∀ D H', H D = none → H' D = some (.lst ((nds row).map fun i => V.int (i : Nat))) → Same H H' → Q (.ref D) H'
abbrev sNode_indexes : Stmt := top 47
theorem scNode_indexes : FnScope ["row", "item"] ["row"] (defScope sNode_indexes) := ⟨rfl, rfl, rfl, by decide +kernel, rfl, by decide +kernel, by decide +kernel⟩
theorem ok_nodes {f : Addr} {fd : FuncData} (F : Fun K "_node_indexes" "_node_indexes" sNode_indexes f fd) : FnOk P w K mg base CX0 1 f fd ["row"] (spNodes K) := by
  refine F.ok scNode_indexes (fun vs H Q E h => ?_) (fun cdv A outer s H vs Q E hr h => ?_)
  · obtain ⟨v, row, rfl, _⟩ := h
    rfl
  · obtain ⟨v, row, rfl, ⟨a, us0, rfl, hq, pr⟩, lr, k⟩ := h
    refine ⟨_, (pss_one (ps_ret (pe_lc (own := [("item", 1)]) (g := (gName 1)) rfl scNode_indexes.nd (piS K (pv 0)) (blkOk_by (own := [("item", 1)]) (N := ["row", "item"]) (sc := defScope sNode_indexes) (by decide +kernel)) (fun _ _ _ _ _ => (pg_name (i := 1) scNode_indexes.nd rfl (by first | exact Or.inl rfl | exact Or.inr rfl))) (fun _ _ _ _ _ => pts_one (pt_cmpR op_eq (pe_ix (ixt K) (pv 1) pe_int (fun _ _ => rfl)) pe_str (nomark _))) (fun _ _ _ _ _ => (pe_ix (ixt K) (pv 1) pe_int (fun _ _ => rfl)))))), ?_⟩
    have sz : (5000 : Nat) < sizeLine := by decide
    have lu := Paired.length pr
    refine ⟨_, rfl, a, _, rfl, hq, fun J G wk hG D hD => ?_⟩
    refine it_any wk (fun i H' => Same H H' ∧ H' D = some (.lst ((nds (row.take i)).map fun i => V.int (i : Nat)))) ⟨Same.new hD, upd_same⟩ (fun i H' _ q => hG _ q.1) ?_ ?_
    · rintro i x _ H1 hi ⟨s1, h1⟩ ⟨rfl, hx⟩
      rw [List.getElem?_map] at hx
      obtain ⟨t, ht0, rfl⟩ := Option.map_eq_some_iff.mp hx
      obtain ⟨it, hit, sq⟩ := paired_get pr ht0
      rw [List.length_map, lu] at hi
      have tk : row.take (i + 1) = row.take i ++ [it] := by rw [List.take_add_one, hit]; rfl
      have sq1 : SqT K H1 t (itV it) := s1.tup sq
      by_cases isn : ∃ j, it = .nd j
      · obtain ⟨j, rfl⟩ := isn
        refine ⟨rfl, _, rfl, t, _, (0 : Nat), _, rfl, rfl, sq1, rfl, rfl, _, rfl, ite2 (fun _ => ?_) fun e => absurd (decide_eq_true rfl) e⟩
        refine ⟨_, rfl, t, _, (1 : Nat), _, rfl, rfl, sq1, rfl, _, h1, ?_, s1.mut hD, ?_⟩
        · rw [List.length_map]
          exact Nat.lt_of_le_of_lt (Nat.le_trans (List.length_filterMap_le _ _) (List.length_take_le _ _)) (by omega)
        · rw [upd_same, tk, nds_snoc_nd, List.map_append]; rfl
      · obtain ⟨tg, rest, e1, e2⟩ := it_tag it
        have sq2 := sq1
        rw [e1] at sq2
        refine ⟨rfl, _, rfl, t, _, (0 : Nat), _, rfl, rfl, sq2, atI_nat rfl, rfl, _, rfl, ite2 (fun e => absurd (e2.mp (V.str.inj (of_decide_eq_true e))) isn) fun _ => ⟨s1, ?_⟩⟩
        rw [tk, nds_snoc_no _ isn]
        exact h1
    · rintro H1 ⟨s1, h1⟩
      rw [List.length_map, lu, List.take_length] at h1
      exact k D H1 hD h1 s1
end
end Mf
/-! {k: v}, k a tuple of ints and texts -/
namespace Mf
open PySem PySem.Spec PyProof.Rows L2
def tD1T (tk tv : TE) : TE := fun σ H Q => ∀ p, H p = none → tPairs [(tk, tv)] σ (upd H p (.dT [])) fun ps H2 => ∃ x y b ks, ps = [(x, y)] ∧ x = .ref b ∧ H2 b = some (.tup (ks.map kV)) ∧ H2 p = some (.dT []) ∧ Q (.ref p) (upd H2 p (.dT [(ks, y)]))
theorem pe_d1T {X : Cx} {k v : Expr} {tk tv : TE} {pos : Pos} (hu : X.A.units + 1 < cLine) (hk : PE X k tk) (hv : PE X v tv) : PE X (.Dict [some k] [v] pos) (tD1T tk tv) := by
  refine ⟨fun pins s σ H Q I q => ?_⟩
  have hn := I.hok.fresh (Nat.le_refl s.heap.objs.size)
  have I1 := I.laid (a := s.heap.objs.size) (o := .dT []) (h' := s.heap.push { cls := .type "dict", data := .dict #[] }) (t' := s.toks) (fun _ _ q => Heap.get?_push_of_some _ q) (Nat.le_refl _) (dt_empty s.heap I.big)
  have one : ([some k] : List (Option Expr)).length ≤ 15 := by show 1 ≤ 15; decide
  refine wpAny_Dict_any rfl rfl (by simp) one (thn ((pps_cons (pos := pos) hk hv pps_nil).run pins _ σ _ (fun ps H2 => ∃ x y b ks, ps = [(x, y)] ∧ x = .ref b ∧ H2 b = some (.tup (ks.map kV)) ∧ H2 s.heap.objs.size = some (.dT []) ∧ Q (.ref s.heap.objs.size) (upd H2 s.heap.objs.size (.dT [(ks, y)]))) I1 ?_) fun ws s2 ⟨ps, H2, I2, rel, x, y, b, ks, e1, e2, eb, ed, g⟩ => ?_)
  · exact q _ hn
  · subst e1 e2
    cases rel with
    | @cons _ q _ qs h t =>
      cases t
      obtain ⟨u, r⟩ := q
      obtain ⟨ru, rr⟩ := h
      cases (show u = Value.ref b from ru)
      obtain ⟨z, hd, xs, kt, dd⟩ := dt_of I2.hok ed
      cases kt
      have room : (tupleKind (mixKind X.prog X.w)).room X.A := Nat.lt_of_succ_lt hu
      refine wpAny_storeAllH (knd := tupleKind (mixKind X.prog X.w)) room [(.ref b, r)] [(ks, b, r)] [] s2 _ ⟨rfl, rfl, key_of I2.hok eb, trivial⟩ dd (by show 0 + 1 ≤ sizeLine; decide) fun h' tk' dd' hs => ?_
      obtain ⟨q, es, ep, hq, h2, h3, h4, _, h5⟩ := dd'
      have new : ObjOk X.prog X.w (upd H2 s.heap.objs.size (.dT [(ks, y)])) h' s.heap.objs.size (.dT [(ks, y)]) :=
        ⟨(by show 1 ≤ sizeLine; decide), hd, [(ks, b, r)], .cons ⟨rfl, by rw [upd_ne (ne_of eb ed (fun z => nomatch z))]; exact eb, rr⟩ .nil, q, es, ep, hq, h2, h3, h4, h5⟩
      exact ⟨.ref s.heap.objs.size, _, d_write I2 (by rw [ed]; exact True.intro) hs ⟨q, hq⟩ new, rfl, g⟩
end Mf
/-! {k: v}, k an int or a text -/
namespace Mf
open PySem PySem.Spec PyProof.Rows L2
def tD1K (tk tv : TE) : TE := fun σ H Q => ∀ p, H p = none → tPairs [(tk, tv)] σ (upd H p (.dK [])) fun ps H2 => ∃ x y k, ps = [(x, y)] ∧ x = kV k ∧ H2 p = some (.dK []) ∧ Q (.ref p) (upd H2 p (.dK [(k, y)]))
theorem pe_d1K {X : Cx} {k v : Expr} {tk tv : TE} {pos : Pos} (hk : PE X k tk) (hv : PE X v tv) : PE X (.Dict [some k] [v] pos) (tD1K tk tv) := by
  refine ⟨fun pins s σ H Q I q => ?_⟩
  have hn := I.hok.fresh (Nat.le_refl s.heap.objs.size)
  have I1 := I.laid (a := s.heap.objs.size) (o := .dK []) (h' := s.heap.push { cls := .type "dict", data := .dict #[] }) (t' := s.toks) (fun _ _ q => Heap.get?_push_of_some _ q) (Nat.le_refl _) (dk_empty s.heap I.big)
  have one : ([some k] : List (Option Expr)).length ≤ 15 := by show 1 ≤ 15; decide
  refine wpAny_Dict_any rfl rfl (by simp) one (thn ((pps_cons (pos := pos) hk hv pps_nil).run pins _ σ _ (fun ps H2 => ∃ x y k, ps = [(x, y)] ∧ x = kV k ∧ H2 s.heap.objs.size = some (.dK []) ∧ Q (.ref s.heap.objs.size) (upd H2 s.heap.objs.size (.dK [(k, y)]))) I1 ?_) fun ws s2 ⟨ps, H2, I2, rel, x, y, kk, e1, e2, ed, g⟩ => ?_)
  · exact q _ hn
  · subst e1 e2
    cases rel with
    | @cons _ q _ qs h t =>
      cases t
      obtain ⟨u, r⟩ := q
      obtain ⟨ru, rr⟩ := h
      obtain ⟨z, hd, vs, kt, dd⟩ := dk_of I2.hok ed
      cases kt
      refine wpAny_storeAll (knd := mixKind X.prog X.w) [(u, r)] [(kk, r)] [] s2 _ ⟨kV_is ru, rfl, trivial⟩ dd (by show 0 + 1 ≤ sizeLine; decide) fun h' dd' hs => ?_
      have he : ∃ q, h'.get? s.heap.objs.size = some q := let ⟨q, _, _, hq, _⟩ := dd'; ⟨q, hq⟩
      have new : ObjOk X.prog X.w (upd H2 s.heap.objs.size (.dK [(kk, y)])) h' s.heap.objs.size (.dK [(kk, y)]) :=
        ⟨(by show 1 ≤ sizeLine; decide), hd, [(kk, r)], .cons ⟨rfl, rr⟩ .nil, dd'⟩
      exact ⟨.ref s.heap.objs.size, _, d_write I2 (by rw [ed]; exact True.intro) hs he new, rfl, g⟩
end Mf
/-! a walk over a list or a tuple that stays, whatever else changes -/
namespace Mf
open PySem PySem.Spec PyProof.Rows L2
section
variable {X : Cx} {tg : Expr}
/-- a walk over a list or a tuple -/
def iSeq2 (K : PySem.W.Frag) (tl : TE) : TI := fun σ H R => tl σ H fun x H1 => ∃ a xs, x = .ref a ∧ ((SqL K H1 a xs ∧ ∀ (J : It) (G : Hp → Prop), Walk J xs.length G (YAt xs) → (∀ H', SqL K H' a xs → G H') → R J H1) ∨
  (SqT K H1 a xs ∧ ∀ (J : It) (G : Hp → Prop), Walk J xs.length G (YAt xs) → (∀ H', SqT K H' a xs → G H') → R J H1))
theorem seq2_of {K : PySem.W.Frag} {H H1 : Hp} {a : Addr} {xs : List V} {R : It → Prop} (h : SqL K H a xs ∨ SqT K H a xs) (s : Same H H1) (k : ∀ (J : It) (G : Hp → Prop), Walk J xs.length G (YAt xs) → (∀ H', Same H H' → G H') → R J) :
    (SqL K H1 a xs ∧ ∀ (J : It) (G : Hp → Prop), Walk J xs.length G (YAt xs) → (∀ H', SqL K H' a xs → G H') → R J) ∨ (SqT K H1 a xs ∧ ∀ (J : It) (G : Hp → Prop), Walk J xs.length G (YAt xs) → (∀ H', SqT K H' a xs → G H') → R J) :=
  h.elim (fun h => .inl ⟨same_SqL s h, fun J G w g => k J G w fun H' s' => g H' (same_SqL s' h)⟩) fun h => .inr ⟨s.tup h, fun J G w g => k J G w fun H' s' => g H' (s'.tup h)⟩
theorem pi_seq2 {l : Expr} {tl : TE} (hl : PE X l tl) : PI X tg l (iSeq2 X.K tl) := by
  refine ⟨fun pins s σ H R I h => ?_⟩
  refine thn (hl.run pins s σ H _ I h) fun v s1 ⟨x, H1, I1, r1, q1⟩ => ?_
  obtain ⟨a, xs, e, ⟨hq, q⟩ | ⟨hq, q⟩⟩ := q1
  · subst e
    cases r1
    obtain ⟨its, rv, p, hz⟩ := I1.list hq
    refine wpAny_pyIter_list p.isList ?_
    refine ⟨s1.heap.objs.size, [s1.heap.objs.size], _, _, H1, rfl, I1.kept (t' := s1.toks) fun b o e => Heap.get?_push_of_some _ e, turn_list a _, ⟨_, Heap.get?_push_size _ rfl, rfl, rfl⟩, fun b hb => ?_, q _ _ walk_list fun H' s => s⟩
    have e : b = s1.heap.objs.size := by simpa using hb
    subst e
    exact I1.fpOk (Nat.le_refl _) (I1.hok.fresh (Nat.le_refl _))
  · subst e
    cases r1
    obtain ⟨its, rv, p, hz⟩ := I1.tuple hq
    refine wpAny_pyIter_tuple (show s1.heap.IsTuple a its.toArray from p) ?_
    refine ⟨s1.heap.objs.size, [s1.heap.objs.size], _, _, H1, rfl, I1.kept (t' := s1.toks) fun b o e => Heap.get?_push_of_some _ e, turn_tuple a _, ⟨_, Heap.get?_push_size _ rfl, rfl, rfl⟩, fun b hb => ?_, q _ _ walk_tup fun H' s => s⟩
    have e : b = s1.heap.objs.size := by simpa using hb
    subst e
    exact I1.fpOk (Nat.le_refl _) (I1.hok.fresh (Nat.le_refl _))
theorem piS2 (K : PySem.W.Frag) {l : Expr} {tl : TE} (hl : PE X l tl) (h : X.K = K := by rfl) : PI X tg l (iSeq2 K tl) := h ▸ pi_seq2 hl
end
end Mf
namespace Mf
open PySem L2
theorem eqv_int' (x y : Nat) : PyData.eqv (.int (x : Nat)) (.int (y : Nat)) = decide ((x : Int) = (y : Int)) := eqv_int _ _
theorem nk_all {K : PySem.W.Frag} {H : Hp} {us : List Addr} {row : List Itm} (p : Paired (ItA K H) us row) : NKall K H (row.map nkI) (us.map V.ref) := by
  induction p with
  | nil => exact .nil
  | @cons u it us row a _ ih =>
    refine .cons ?_ ih
    cases it with
    | num n => exact .tup a (.cons (.str _) (.cons (.int _) .nil))
    | wd z => exact .tup a (.cons (.str _) (.cons (.str _) .nil))
    | gap => exact .tup a (.cons (.str _) .nil)
    | nd i => exact .tup a (.cons (.str _) (.cons (.int _) .nil))
/-- a dict's object is put: tuples stay -/
theorem ext_tup {K : PySem.W.Frag} {H : Hp} {N : Addr} {φ : Heap → Prop} {o : HO} (h : H N = some (.ext φ)) : ∀ a vs, SqT K H a vs → SqT K (upd H N o) a vs := fun a vs q => by
  rcases q with (q | ⟨x, q⟩) | q
  · exact .inl (.inl (by rw [upd_ne (ne_of q h (by intro z; cases z))]; exact q))
  · exact .inl (.inr ⟨x, by rw [upd_ne (ne_of q h (by intro z; cases z))]; exact q⟩)
  · exact .inr q
/-- the dict's keys and numbers -/
inductive KD : Nat → List NE → List (List Itm) → Prop
  | nil {n : Nat} : KD n [] []
  | cons {n : Nat} {b : Addr} {r : List Itm} {kvs : List NE} {ds : List (List Itm)} : KD (n + 1) kvs ds → KD n ((nkRow r, b, (n : Int)) :: kvs) (r :: ds)
theorem KD.len {n : Nat} {kvs : List NE} {ds : List (List Itm)} (h : KD n kvs ds) : kvs.length = ds.length := by
  induction h with
  | nil => rfl
  | cons _ ih => rw [List.length_cons, List.length_cons, ih]
theorem KD.at {n : Nat} {kvs : List NE} {ds : List (List Itm)} (h : KD n kvs ds) (r : List Itm) : atN kvs (nkRow r) = if r ∈ ds then some ((n + ixG r ds : Nat) : Int) else none := by
  induction h with
  | nil => rfl
  | @cons n b r' kvs ds _ ih =>
    unfold atN at ih ⊢
    unfold ixG
    by_cases e : r' = r
    · subst e
      rw [List.find?_cons_of_pos (p := fun kv : NE => decide (kv.1 = nkRow r')) (decide_eq_true rfl), if_pos List.mem_cons_self, if_pos rfl]
      rfl
    · rw [List.find?_cons_of_neg (p := fun kv : NE => decide (kv.1 = nkRow r)) (by rw [decide_eq_false (fun q => e (nkRow_inj q))]; decide), ih, if_neg e]
      by_cases m : r ∈ ds
      · rw [if_pos m, if_pos (List.mem_cons_of_mem _ m), show n + 1 + ixG r ds = n + (ixG r ds + 1) by omega]
      · rw [if_neg m, if_neg (fun q => (List.mem_cons.mp q).elim (fun q => e q.symm) m)]
theorem KD.snoc {n : Nat} {kvs : List NE} {ds : List (List Itm)} (h : KD n kvs ds) (r : List Itm) (b : Addr) : KD n (kvs ++ [(nkRow r, b, ((n + ds.length : Nat) : Int))]) (ds ++ [r]) := by
  induction h with
  | nil => exact .cons .nil
  | @cons n b' r' kvs ds _ ih =>
    rw [List.length_cons, show n + (ds.length + 1) = n + 1 + ds.length by omega]
    exact .cons ih
/-- what is asked of rows -/
structure RwOk (R : List (List Itm)) : Prop where
  few : R.length ≤ 1000
  row : ∀ r ∈ R, r.length ≤ 4000
  nd : NdOk R
section
variable {P : Program} {w : World} {K : PySem.W.Frag} {mg : Str → Option Value} {base : Heap}
abbrev nsV (c : List Nat) : List V := c.map fun i => V.int (i : Nat)
theorem nsV_app (a b : List Nat) : nsV (a ++ b) = nsV a ++ nsV b := List.map_append ..
theorem nsV_at {c : List Nat} {i : Nat} (h : i < c.length) : atI (nsV c) (i : Nat) = some (.int (c.getD i 0 : Nat)) := atI_nat (by
  rw [List.getElem?_map, List.getElem?_eq_getElem h, List.getD_eq_getElem?_getD, List.getElem?_eq_getElem h]; rfl)
/-! ### _finer_classes -/
def spFiner (K : PySem.W.Frag) : Sp := fun vs H Q _ => ∃ (v : V) (cl : Addr) (R : List (List Itm)) (cls : List Nat), vs = [v, .ref cl] ∧ RowsQ K H v R ∧ RwOk R ∧ H cl = some (.lst (nsV cls)) ∧ cls.length = R.length ∧
  ∀ D H', H D = none → H' D = some (.lst (nsV (fin R cls))) → Same H H' → Q (.ref D) H'
abbrev sFiner_classes : Stmt := top 49
theorem scFiner_classes : FnScope ["rows", "classes", "numbers", "finer", "row", "key"] ["rows", "classes"] (defScope sFiner_classes) := ⟨rfl, rfl, rfl, by decide +kernel, rfl, by decide +kernel, by decide +kernel⟩
set_option maxHeartbeats 1000000 in
theorem ok_finer {f : Addr} {fd : FuncData} (F : Fun K "_finer_classes" "_finer_classes" sFiner_classes f fd) (mTuple : mg "tuple" = none) (mLen : mg "len" = none) (c__pointing_row : Cal P w K mg base CX0 1 "_pointing_row" ["row", "targets"] (spPoint K)) : FnOk P w K mg base CX0 2 f fd ["rows", "classes"] (spFiner K) := by
  refine F.ok scFiner_classes (fun vs H Q E h => ?_) (fun cdv A outer s H vs Q E hr h => ?_)
  · obtain ⟨v, cl, R, cls, rfl, _⟩ := h
    rfl
  · obtain ⟨v, cl, R, cls, rfl, ⟨a, bs, rfl, hq, pr⟩, ok, hc, lc, k⟩ := h
    have hu : (A.deeper (PyProof.Rows.envOfC "_finer_classes" (defScope sFiner_classes) s.heap.objs.size f cdv)).units + 9 < cLine := by have := hr.units; omega
    have hr__pointing_row := hr
    refine ⟨_, (pss_cons (ps_set (i := 2) scFiner_classes.nd rfl (by first | exact Or.inl rfl | exact Or.inr rfl) pe_ndnew)
      (pss_cons (ps_set (i := 3) scFiner_classes.nd rfl (by first | exact Or.inl rfl | exact Or.inr rfl) (pe_lst pa_nil))
      (pss_cons (ps_for PassesOwn.never rfl (piS2 K (pv 0)) (pg_name (i := 4) scFiner_classes.nd rfl (by first | exact Or.inl rfl | exact Or.inr rfl))
        (pss_cons (ps_set (i := 5) scFiner_classes.nd rfl (by first | exact Or.inl rfl | exact Or.inr rfl) (pe_callTy (k_tuple K) (by rfl) mTuple (by decide +kernel) (pa_cons (pe_cal c__pointing_row hr__pointing_row pass0 (pa_cons (pv 4) (pa_cons (pv 1) pa_nil))) pa_nil)))
        (pss_cons (ps_if (pt_cmp (pc_ndnotin hu (pv 5) (pv 2)))
          (pss_one (ps_asg (pe_callB call_len_nd (by rfl) mLen (by decide +kernel) (pa_cons (pv 2) pa_nil)) (pg_sub (pv 2) (pv 5) (set_nd hu)))) pss_nil)
        (pss_one (ps_expr (pe_bm PySem.F.plainAttrs_list PySem.F.slot_list_append PySem.F.type_list_append mt_append (pv 3) (pa_cons (pe_ndget hu (pv 2) (pv 5) (fun _ _ => rfl)) pa_nil)))))))
      (pss_one (ps_ret (pv 3)))))), ?_⟩
    have sz : (5000 : Nat) < sizeLine := by decide
    have lb := Paired.length pr
    have few := ok.few
    refine fun N hN => ⟨(by show 0 ≤ sizeLine; decide), fun F hF => ?_⟩
    have hF : (upd H N (NDo P w N [])) F = none := hF
    have sN := Same.new (o := NDo P w N []) hN
    have nFN : F ≠ N := ne_none hF upd_same
    have nF : H F = none := by
      cases e : H F with
      | none => rfl
      | some o => rw [sN _ _ e] at hF; cases hF
    have s0 : Same H (upd (upd H N (NDo P w N [])) F (.lst [])) := sN.trans (Same.new hF)
    have N0 : NDict P w K (upd (upd H N (NDo P w N [])) F (.lst [])) N [] := ⟨(Same.new hF) _ _ upd_same, by simp⟩
    have keyl : (R.map (ptRow cls)).length = R.length := List.length_map ..
    refine ⟨_, rfl, a, bs, rfl, seq2_of hq s0 fun J G wk hG => ?_⟩
    refine for_it wk (fun i σ H' => ∃ (v4 v5 : Option V) (kvs : List NE), σ = [some (.ref a), some (.ref cl), some (.ref N), some (.ref F), v4, v5] ∧ Same H H' ∧ NDict P w K H' N kvs ∧ KD 0 kvs (dd [] ((R.map (ptRow cls)).take i)) ∧
        H' F = some (.lst (nsV (((R.map (ptRow cls)).take i).map fun r => ixG r (dd [] ((R.map (ptRow cls)).take i))))))
      ⟨none, none, [], rfl, s0, N0, .nil, upd_same⟩ (fun i σ H' _ q => hG _ q.choose_spec.choose_spec.choose_spec.2.1) ?_ ?_
    · rintro i x σ _ H1 hi ⟨v4, v5, kvs, rfl, s1, N1, kd, h1⟩ ⟨rfl, hx⟩
      obtain ⟨row, hrow, rq⟩ := paired_get pr hx
      have rm := List.mem_of_getElem? hrow
      have hk : (R.map (ptRow cls))[i]? = some (ptRow cls row) := by rw [List.getElem?_map, hrow]; rfl
      have tk : (R.map (ptRow cls)).take (i + 1) = (R.map (ptRow cls)).take i ++ [ptRow cls row] := by rw [List.take_add_one, hk]; rfl
      generalize hkeys : R.map (ptRow cls) = keys at *
      have rowlen := ok.row row rm
      refine ⟨_, rfl, _, rfl, x, cl, nsV cls, row, (fun i => cls.getD i 0), rfl, rq.same s1, .of (s1 _ _ hc), rowlen, fun j hj => nsV_at (by rw [lc]; exact ok.nd row rm j hj), fun L H2 us nL hL pu s2 => ?_⟩
      refine ⟨L, _, rfl, .inl ⟨.of hL, fun b nb => ?_⟩⟩
      have s3 := s2.trans (Same.new (o := .tup (us.map V.ref)) nb)
      have hb : (upd H2 b (.tup (us.map V.ref))) b = some (.tup (us.map V.ref)) := upd_same
      have pb : Paired (ItA K (upd H2 b (.tup (us.map V.ref)))) us (ptRow cls row) := paired_same pu fun _ _ q => q.same (Same.new nb)
      generalize upd H2 b (.tup (us.map V.ref)) = H3 at s3 hb pb
      have nk : NKv K H3 (nkRow (ptRow cls row)) (.ref b) := .tup (.of hb) (nk_all pb)
      have N3 : NDict P w K H3 N kvs := ⟨s3 _ _ N1.o, fun kv h => ⟨(N1.k kv h).1.mv fun _ _ q => s3.tup q, (N1.k kv h).2⟩⟩
      have h3 := s3 _ _ h1
      have s13 := s1.trans s3
      have at_ := kd.at (ptRow cls row)
      have ll : kvs.length ≤ i := by
        rw [kd.len]
        have q := nodup_le (dd_nd (keys.take i) [] List.nodup_nil) (m := keys.take i) fun k hk => (dd_sub hk).elim (fun h => nomatch h) id
        rw [List.length_take] at q
        omega
      have hi2 : i < R.length := by rw [← lb]; exact hi
      refine ⟨_, rfl, _, rfl, N, kvs, _, b, rfl, rfl, N3, nk, nkRow_depth _, _, rfl, ?_⟩
      rw [at_]
      by_cases c : ptRow cls row ∈ dd [] (keys.take i)
      · have ed : dd [] (keys.take (i + 1)) = dd [] (keys.take i) := by rw [tk, dd_snoc, if_pos c]
        rw [if_pos c] at at_ ⊢
        refine iteF ?_
        refine ⟨_, rfl, .inl ⟨rfl, _, .of h3⟩, _, rfl, _, rfl, N, kvs, _, b, _, rfl, rfl, N3, nk, nkRow_depth _, at_, F, _, _, rfl, rfl, h3, by rw [List.length_map, List.length_map, List.length_take]; omega, ?_⟩
        refine ⟨_, _, kvs, rfl, s13.mut nF, ⟨by rw [upd_ne (Ne.symm nFN)]; exact N3.o, fun kv h => ⟨(N3.k kv h).1.mv fun _ _ q => (SameN.refl.put h3).tup q, (N3.k kv h).2⟩⟩, by rw [ed]; exact kd, ?_⟩
        rw [upd_same, ed, tk, List.map_append, nsV_app, Nat.zero_add]
        rfl
      · have ed : dd [] (keys.take (i + 1)) = dd [] (keys.take i) ++ [ptRow cls row] := by rw [tk, dd_snoc, if_neg c]
        rw [if_neg c] at at_ ⊢
        refine iteT ?_
        refine ⟨_, rfl, N, kvs, rfl, N3, _, rfl, _, rfl, N, kvs, _, b, _, rfl, rfl, rfl, N3, nk, nkRow_depth _, at_, by omega, ?_⟩
        have lkd := kd.len
        have N4 : NDict P w K (upd H3 N (NDo P w N (kvs ++ [(nkRow (ptRow cls row), b, ((kvs.length : Nat) : Int))]))) N (kvs ++ [(nkRow (ptRow cls row), b, ((kvs.length : Nat) : Int))]) := ⟨upd_same, fun kv h => by
          rcases List.mem_append.mp h with h | h
          · exact ⟨(N3.k kv h).1.mv (ext_tup N3.o), (N3.k kv h).2⟩
          · rw [List.mem_singleton.mp h]; exact ⟨nk.mv (ext_tup N3.o), nkRow_depth _⟩⟩
        have nk4 : NKv K (upd H3 N (NDo P w N (kvs ++ [(nkRow (ptRow cls row), b, ((kvs.length : Nat) : Int))]))) (nkRow (ptRow cls row)) (.ref b) := nk.mv (ext_tup N3.o)
        have h4 : (upd H3 N (NDo P w N (kvs ++ [(nkRow (ptRow cls row), b, ((kvs.length : Nat) : Int))]))) F = some (.lst (nsV ((keys.take i).map fun r => ixG r (dd [] (keys.take i))))) := by rw [upd_ne nFN]; exact h3
        have kd4 := kd.snoc (ptRow cls row) b
        rw [Nat.zero_add, ← lkd] at kd4
        have s14 : Same H (upd H3 N (NDo P w N (kvs ++ [(nkRow (ptRow cls row), b, ((kvs.length : Nat) : Int))]))) := s13.mut hN
        have at4 := kd4.at (ptRow cls row)
        rw [if_pos (List.mem_append_right _ (List.mem_singleton.mpr rfl)), ixG_new [] c, Nat.zero_add] at at4
        refine ⟨_, rfl, .inl ⟨rfl, _, .of h4⟩, _, rfl, _, rfl, N, _, _, b, _, rfl, rfl, N4, nk4, nkRow_depth _, at4, F, _, _, rfl, rfl, h4, by rw [List.length_map, List.length_map, List.length_take]; omega, ?_⟩
        refine ⟨_, _, _, rfl, s14.mut nF, ⟨by rw [upd_ne (Ne.symm nFN)]; exact N4.o, fun kv h => ⟨(N4.k kv h).1.mv fun _ _ q => (SameN.refl.put h4).tup q, (N4.k kv h).2⟩⟩, by rw [ed]; exact kd4, ?_⟩
        rw [upd_same, ed, tk, List.map_append, nsV_app]
        have e1 : (keys.take i).map (fun r => ixG r (dd [] (keys.take i) ++ [ptRow cls row])) = (keys.take i).map fun r => ixG r (dd [] (keys.take i)) := List.map_congr_left fun r hr => ixG_app _ (dd_mem hr)
        rw [e1]
        show _ = some (HO.lst (_ ++ [V.int ((ixG (ptRow cls row) (dd [] (keys.take i) ++ [ptRow cls row]) : Nat) : Int)]))
        rw [ixG_new [] c]
    · rintro σ H1 ⟨v4, v5, kvs, rfl, s1, N1, kd, h1⟩
      refine ⟨_, rfl, k F H1 nF ?_ s1⟩
      rw [h1, lb, ← keyl, List.take_length]
      rfl
/-! ### _classes -/
theorem eqv_nsV (a b : List Nat) : PyData.eqv (.list (a.map fun i => PyData.int (i : Nat))) (.list (b.map fun i => PyData.int (i : Nat))) = decide (a = b) :=
  eqvMap (f := fun i : Nat => PyData.int (i : Nat)) (fun x y => (eqv_int' x y).trans (by by_cases e : x = y <;> simp [e, Int.ofNat_inj])) a b
theorem dp_nsV {H : Hp} {a : Addr} {c : List Nat} (h : H a = some (.lst (nsV c))) : Dp K H (.ref a) (.list (c.map fun i => PyData.int (i : Nat))) := .lst (.of h) (dpMap fun _ _ => .int _)
theorem sh_nsV (c : List Nat) : SeqAt.shaped (.list (c.map fun i : Nat => PyData.int (i : Nat))) = true := (Sh.listM (k := 0) fun _ _ => .int _).sh
def muC (n : Nat) : L2.St → Hp → Nat := fun σ H => match σ[1]? with
  | some (some (V.ref a)) => match H a with
    | some (.lst vs) => n - cnt n (vs.map fun v => match v with | V.int i => i.toNat | _ => 0)
    | _ => 0
  | _ => 0
theorem muC_at {n : Nat} {σ : L2.St} {H : Hp} {a : Addr} {c : List Nat} (h1 : σ[1]? = some (some (V.ref a))) (h2 : H a = some (.lst (nsV c))) : muC n σ H = n - cnt n c := by
  unfold muC
  rw [h1]
  simp only
  rw [h2]
  simp only
  rw [List.map_map]
  have e : ((fun v => match v with | V.int i => i.toNat | _ => 0) ∘ fun i : Nat => V.int (i : Nat)) = id := funext fun i => by simp
  rw [e, List.map_id]
def spClasses (K : PySem.W.Frag) : Sp := fun vs H Q _ => ∃ (v : V) (R : List (List Itm)), vs = [v] ∧ RowsQ K H v R ∧ RwOk R ∧ ∀ D H', H' D = some (.lst (nsV (clsE R))) → Same H H' → Q (.ref D) H'
abbrev sClasses : Stmt := top 48
theorem scClasses : FnScope ["rows", "classes", "finer"] ["rows"] (defScope sClasses) := ⟨rfl, rfl, rfl, by decide +kernel, rfl, by decide +kernel, by decide +kernel⟩
theorem ok_classes {f : Addr} {fd : FuncData} (F : Fun K "_classes" "_classes" sClasses f fd) (mLen : mg "len" = none) (c__finer_classes : Cal P w K mg base CX0 2 "_finer_classes" ["rows", "classes"] (spFiner K)) : FnOk P w K mg base CX0 3 f fd ["rows"] (spClasses K) := by
  refine F.ok scClasses (fun vs H Q E h => ?_) (fun cdv A outer s H vs Q E hr h => ?_)
  · obtain ⟨v, R, rfl, _⟩ := h
    rfl
  · obtain ⟨v, R, rfl, hR, ok, k⟩ := h
    have hr__finer_classes := hr
    refine ⟨_, (pss_cons (ps_set (i := 1) scClasses.nd rfl (by first | exact Or.inl rfl | exact Or.inr rfl) (pe_op op_rep (pe_lst (pa_cons pe_int pa_nil)) (pe_callB (k_len K) (by rfl) mLen (by decide +kernel) (pa_cons (pv 0) pa_nil))))
      (pss_cons (ps_set (i := 2) scClasses.nd rfl (by first | exact Or.inl rfl | exact Or.inr rfl) (pe_cal c__finer_classes hr__finer_classes pass0 (pa_cons (pv 0) (pa_cons (pv 1) pa_nil))))
      (pss_cons (ps_while PassesOwn.never (pt_cmpR (neD K hr) (pv 2) (pv 1) (nomark _))
        (pss_cons (ps_set (i := 1) scClasses.nd rfl (by first | exact Or.inl rfl | exact Or.inr rfl) (pv 2))
        (pss_one (ps_set (i := 2) scClasses.nd rfl (by first | exact Or.inl rfl | exact Or.inr rfl) (pe_cal c__finer_classes hr__finer_classes pass0 (pa_cons (pv 0) (pa_cons (pv 1) pa_nil)))))))
      (pss_one (ps_ret (pv 1)))))), ?_⟩
    have hR0 := hR
    obtain ⟨a, bs, rfl, hq, pr⟩ := hR0
    have lb := Paired.length pr
    have few := ok.few
    have sz : (5000 : Nat) < sizeLine := by decide
    refine ⟨(by show 1 ≤ sizeLine; decide), fun L0 nL0 => ⟨_, rfl, a, bs, rfl, seq_same hq (Same.new nL0), L0, _, _, rfl, rfl, upd_same, by omega, by omega, by show 1 * _ ≤ _; omega, fun L1 nL1 => ?_⟩⟩
    have sL : Same H (upd (upd H L0 (.lst [.int 0])) L1 (.lst (List.replicate ((bs.length : Nat) : Int).toNat [V.int 0]).flatten)) := (Same.new nL0).trans (Same.new nL1)
    have hL1 : (upd (upd H L0 (.lst [.int 0])) L1 (.lst (List.replicate ((bs.length : Nat) : Int).toNat [V.int 0]).flatten)) L1 = some (.lst (nsV (clsN R 0))) := by
      rw [upd_same]
      have e : (List.replicate ((bs.length : Nat) : Int).toNat [V.int 0]).flatten = nsV (clsN R 0) := by
        show _ = (List.replicate R.length 0).map _
        rw [Int.toNat_natCast, lb, List.map_replicate, List.flatten_replicate_singleton]
        rfl
      rw [e]
    generalize upd (upd H L0 (.lst [.int 0])) L1 (.lst (List.replicate ((bs.length : Nat) : Int).toNat [V.int 0]).flatten) = H0 at sL hL1
    refine ⟨_, rfl, _, rfl, .ref a, L1, R, clsN R 0, rfl, hR.same sL, ok, hL1, clsN_len R 0, fun D1 H1 _ hD1 s1 => ?_⟩
    refine while_by (fun σ H' => ∃ (c fl : Addr) (m : Nat), σ = [some (.ref a), some (.ref c), some (.ref fl)] ∧ H' c = some (.lst (nsV (clsN R m))) ∧ H' fl = some (.lst (nsV (clsN R (m + 1)))) ∧ Same H H') (muC R.length) ⟨L1, D1, 0, rfl, s1 _ _ hL1, hD1, sL.trans s1⟩ ?_ ?_
    · rintro σ H2 ⟨c, fl, m, rfl, hc, hf, s2⟩
      refine ⟨_, rfl, _, rfl, _, _, dp_nsV hf, dp_nsV hc, sh_nsV _, sh_nsV _, _, rfl, ?_⟩
      rw [eqv_nsV]
      by_cases e : clsN R (m + 1) = clsN R m
      · rw [decide_eq_true e]
        refine iteF ⟨_, rfl, k c H2 ?_ s2⟩
        rw [hc, cls_fix ok.nd e]
      · rw [decide_eq_false e]
        refine iteT ?_
        refine ⟨_, rfl, _, rfl, _, rfl, .ref a, fl, R, clsN R (m + 1), rfl, hR.same s2, ok, hf, clsN_len R _, fun D3 H3 _ hD3 s3 => ?_⟩
        refine ⟨⟨fl, D3, m + 1, rfl, s3 _ _ hf, hD3, s2.trans s3⟩, ?_⟩
        rw [muC_at (a := fl) (c := clsN R (m + 1)) rfl (s3 _ _ hf), muC_at (a := c) (c := clsN R m) rfl hc]
        have g := cls_step ok.nd m e
        have l := cnt_le R.length (clsN R (m + 1))
        omega
    · rintro σ H' Q Q' m ⟨x, e1, y, e2, d, e, a1, a2, a3, a4, b, eb, q⟩
      exact ⟨x, e1, y, e2, d, e, a1, a2, a3, a4, b, eb, m _ _ q⟩
end
end Mf
namespace Mf
open PySem L2
section
variable {P : Program} {w : World} {K : PySem.W.Frag} {mg : Str → Option Value} {base : Heap}
theorem ixq (K : PySem.W.Frag) {X : Cx} (h : X.K = K := by rfl) : IxR X (rIx K) := h ▸ ix_seq
theorem rix_of {H : Hp} {Q : VK} {a : Addr} {xs : List V} {i : Int} {v : V} (h : SqL K H a xs ∨ SqT K H a xs) (e : atI xs i = some v) (k : Q v H) : rIx K (.ref a) (.int i) H Q :=
  h.elim (fun h => .inl ⟨a, xs, i, v, rfl, rfl, h, e, k⟩) fun h => .inr (.inl ⟨a, xs, i, v, rfl, rfl, h, e, k⟩)
/-! ### numbered_rows -/
/-- the dict of the numbers -/
def NumK (kvs : List (Key × V)) (cs : List Nat) : Prop := kvs.length = cs.length ∧ ∀ x : Nat, valV kvs (Sum.inl (x : Int)) = if x ∈ cs then some (.int (ixG x cs : Nat)) else none
theorem NumK.snoc {kvs : List (Key × V)} {cs : List Nat} (h : NumK kvs cs) {x : Nat} (n : x ∉ cs) : NumK (putK kvs (Sum.inl (x : Int)) (.int (cs.length : Nat))) (cs ++ [x]) := by
  have hn : valV kvs (Sum.inl (x : Int)) = none := by rw [h.2 x, if_neg n]
  refine ⟨by rw [putK_new _ hn, List.length_append, List.length_append, h.1]; rfl, fun y => ?_⟩
  rw [valV_put]
  by_cases e : y = x
  · subst e
    rw [if_pos rfl, if_pos (List.mem_append_right _ (List.mem_singleton.mpr rfl)), ixG_new [] n]
  · have ne : ¬ (Sum.inl (y : Int) : Key) = Sum.inl (x : Int) := fun q => e (Int.ofNat.inj (Sum.inl.inj q))
    rw [if_neg ne, h.2 y]
    by_cases m : y ∈ cs
    · rw [if_pos m, if_pos (List.mem_append_left _ m), ixG_app _ m]
    · rw [if_neg m, if_neg (fun q => (List.mem_append.mp q).elim m fun q => e (List.mem_singleton.mp q))]
def muN : L2.St → Hp → Nat := fun σ _ => match σ[5]? with
  | some (some (V.int j)) => 100000 - j.toNat
  | _ => 0
def spNumbered (K : PySem.W.Frag) : Sp := fun vs H Q _ => ∃ (v : V) (R : List (List Itm)) (st : Nat), vs = [v, .int st] ∧ RowsQ K H v R ∧ RwOk R ∧ st < R.length ∧ ∀ D H' us, H D = none → H' D = some (.lst (us.map V.ref)) → Paired (fun u row => ∃ ts : List Addr, H' u = some (.lst (ts.map V.ref)) ∧ Paired (ItA K H') ts row) us (canonN R st) → (∀ u ∈ us, u ≠ D ∧ H u = none) → Same H H' → Q (.ref D) H'
abbrev sNumbered_rows : Stmt := top 46
theorem scNumbered_rows : FnScope ["rows", "start", "classes", "numbers", "found", "at", "renumbered", "row", "index", "number"] ["rows", "start"] (defScope sNumbered_rows) := ⟨rfl, rfl, rfl, by decide +kernel, rfl, by decide +kernel, by decide +kernel⟩
set_option maxHeartbeats 1000000 in
theorem ok_numbered {f : Addr} {fd : FuncData} (F : Fun K "numbered_rows" "numbered_rows" sNumbered_rows f fd) (mLen : mg "len" = none) (c__classes : Cal P w K mg base CX0 3 "_classes" ["rows"] (spClasses K)) (c__node_indexes : Cal P w K mg base CX0 1 "_node_indexes" ["row"] (spNodes K)) (c__pointing_row : Cal P w K mg base CX0 1 "_pointing_row" ["row", "targets"] (spPoint K)) :
    FnOk P w K mg base CX0 4 f fd ["rows", "start"] (spNumbered K) := by
  refine F.ok scNumbered_rows (fun vs H Q E h => ?_) (fun cdv A outer s H vs Q E hr h => ?_)
  · obtain ⟨v, R, st, rfl, _⟩ := h
    rfl
  · obtain ⟨v, R, st, rfl, hR, ok, lst, k⟩ := h
    have hu : (A.deeper (PyProof.Rows.envOfC "numbered_rows" (defScope sNumbered_rows) s.heap.objs.size f cdv)).units + 1 < cLine := by have := hr.units; omega
    have hr__classes := hr; have hr__node_indexes : Room 1 _ := hr.mono (by decide : 1 ≤ 3); have hr__pointing_row := hr__node_indexes
    refine ⟨_, (pss_cons (ps_set (i := 2) scNumbered_rows.nd rfl (by first | exact Or.inl rfl | exact Or.inr rfl) (pe_cal c__classes hr__classes pass0 (pa_cons (pv 0) pa_nil)))
      (pss_cons (ps_set (i := 3) scNumbered_rows.nd rfl (by first | exact Or.inl rfl | exact Or.inr rfl) (pe_d1K (pe_ix (ixl K) (pv 2) (pv 1) (fun _ _ => rfl)) pe_int))
      (pss_cons (ps_set (i := 4) scNumbered_rows.nd rfl (by first | exact Or.inl rfl | exact Or.inr rfl) (pe_lst (pa_cons (pv 1) pa_nil)))
      (pss_cons (ps_set (i := 5) scNumbered_rows.nd rfl (by first | exact Or.inl rfl | exact Or.inr rfl) pe_int)
      (pss_cons (ps_while PassesOwn.never (pt_cmpR op_lt (pv 5) (pe_callB (k_len K) (by rfl) mLen (by decide +kernel) (pa_cons (pv 4) pa_nil)) (nomark _))
        (pss_cons (ps_set (i := 7) scNumbered_rows.nd rfl (by first | exact Or.inl rfl | exact Or.inr rfl) (pe_ix (ixq K) (pv 0) (pe_ix (ixl K) (pv 4) (pv 5) (fun _ _ => rfl)) (fun _ _ => rfl)))
        (pss_cons (ps_for PassesOwn.never rfl (pi_list (pe_cal c__node_indexes hr__node_indexes pass0 (pa_cons (pv 7) pa_nil))) (pg_name (i := 8) scNumbered_rows.nd rfl (by first | exact Or.inl rfl | exact Or.inr rfl))
          (pss_one (ps_if (pt_cmp (pc_dnotin hu (pe_ix (ixl K) (pv 2) (pv 8) (fun _ _ => rfl)) (pv 3)))
            (pss_cons (ps_asg (pe_callB (k_len K) (by rfl) mLen (by decide +kernel) (pa_cons (pv 4) pa_nil)) (pg_sub (pv 3) (pe_ix (ixl K) (pv 2) (pv 8) (fun _ _ => rfl)) (set_dict hu)))
            (pss_one (ps_expr (pe_bm PySem.F.plainAttrs_list PySem.F.slot_list_append PySem.F.type_list_append mt_append (pv 4) (pa_cons (pv 8) pa_nil))))) pss_nil)))
        (pss_one (ps_aug (i := 5) scNumbered_rows.nd rfl (by first | exact Or.inl rfl | exact Or.inr rfl) pe_int ip_add)))))
      (pss_cons (ps_set (i := 6) scNumbered_rows.nd rfl (by first | exact Or.inl rfl | exact Or.inr rfl) (pe_lc (own := [("number", 9)]) (g := (gName 9)) (tt := tYes) rfl scNumbered_rows.nd (pi_list (pv 2)) (blkOk_by (own := [("number", 9)]) (N := ["rows", "start", "classes", "numbers", "found", "at", "renumbered", "row", "index", "number"]) (sc := defScope sNumbered_rows) (by decide +kernel)) (fun _ _ _ _ _ => (pg_name (i := 9) scNumbered_rows.nd rfl (by first | exact Or.inl rfl | exact Or.inr rfl))) (fun _ _ _ _ _ => pts_nil) (fun _ _ _ _ _ => (pe_dget1 hu (pv 3) (pv 9) ⟨rfl, rfl, rfl, rfl⟩))))
      (pss_one (ps_ret (pe_lc (own := [("index", 8)]) (g := (gName 8)) (tt := tYes) rfl scNumbered_rows.nd (pi_list (pv 4)) (blkOk_by (own := [("index", 8)]) (N := ["rows", "start", "classes", "numbers", "found", "at", "renumbered", "row", "index", "number"]) (sc := defScope sNumbered_rows) (by decide +kernel)) (fun _ _ _ _ _ => (pg_name (i := 8) scNumbered_rows.nd rfl (by first | exact Or.inl rfl | exact Or.inr rfl))) (fun _ _ _ _ _ => pts_nil) (fun _ _ _ _ _ => (pe_cal c__pointing_row hr__pointing_row pass0 (pa_cons (pe_ix (ixq K) (pv 0) (pv 8) (fun _ _ => rfl)) (pa_cons (pv 6) pa_nil))))))))))))), ?_⟩
    obtain ⟨a, bs, rfl, hq, pr⟩ := id hR
    have lb := Paired.length pr
    have few := ok.few
    have sz : (5000 : Nat) < sizeLine := by decide
    refine ⟨_, rfl, .ref a, R, rfl, hR, ok, fun C H1 hC s1 => ?_⟩
    have lE : (clsE R).length = R.length := clsN_len R _
    refine fun N nN => ⟨_, rfl, _, rfl, C, _, (st : Nat), _, rfl, rfl, .of ((Same.new nN) _ _ hC), nsV_at (by rw [lE]; exact lst), ?_⟩
    refine ⟨_, _, Sum.inl ((clsE R).getD st 0 : Nat), rfl, rfl, upd_same, ?_⟩
    generalize hcE : clsE R = c at hC lE
    have sN : Same H1 (upd (upd H1 N (.dK [])) N (.dK [(Sum.inl ((c.getD st 0 : Nat) : Int), .int 0)])) := (Same.new nN).mut nN
    have hN0 : (upd (upd H1 N (.dK [])) N (.dK [(Sum.inl ((c.getD st 0 : Nat) : Int), .int 0)])) N = some (.dK [(Sum.inl ((c.getD st 0 : Nat) : Int), .int 0)]) := upd_same
    generalize (upd (upd H1 N (.dK [])) N (.dK [(Sum.inl ((c.getD st 0 : Nat) : Int), .int 0)])) = H2 at sN hN0
    refine ⟨_, rfl, (by show 1 ≤ sizeLine; decide), fun F hF => ?_⟩
    have FN : F ≠ N := ne_none hF hN0
    have nF : H1 F = none := by
      cases e : H1 F with
      | none => rfl
      | some o => rw [sN _ _ e] at hF; cases hF
    have nk0 : NumK [(Sum.inl ((c.getD st 0 : Nat) : Int), V.int 0)] ([st].map (cl c)) := ⟨rfl, fun x => by
      show valV [((Sum.inl ((c.getD st 0 : Nat) : Int) : Key), V.int 0)] (Sum.inl (x : Int)) = if x ∈ [cl c st] then some (.int (ixG x [cl c st] : Nat)) else none
      by_cases e : cl c st = x
      · rw [valV_pos (by rw [← e]; rfl), if_pos (by rw [e]; exact List.mem_singleton.mpr rfl)]
        unfold ixG
        rw [if_pos e]; rfl
      · have ne : ¬ ((Sum.inl ((c.getD st 0 : Nat) : Int) : Key)) = Sum.inl (x : Int) := fun q => e (Int.ofNat.inj (Sum.inl.inj q))
        rw [valV_neg ne, if_neg (fun q => e (List.mem_singleton.mp q).symm)]; rfl⟩
    have fd0 : FdOk R.length c [st] := ⟨List.nodup_cons.mpr ⟨by simp, List.nodup_nil⟩, fun i hi => by rw [List.mem_singleton.mp hi]; exact lst⟩
    refine while_by (fun σ H' => ∃ (fd : List Nat) (n : Nat) (v7 v8 : Option V) (kvs : List (Key × V)), σ = [some (.ref a), some (.int (st : Nat)), some (.ref C), some (.ref N), some (.ref F), some (.int (n : Nat)), none, v7, v8, none] ∧ H' F = some (.lst (nsV fd)) ∧ H' N = some (.dK kvs) ∧ NumK kvs (fd.map (cl c)) ∧
        FdOk R.length c fd ∧ n ≤ fd.length ∧ growN R c (R.length + 1 - n) n fd = foundN R c st ∧ (∀ p i, p < n → fd[p]? = some i → ∀ j ∈ nds (R.getD i []), cl c j ∈ fd.map (cl c)) ∧ Same H1 H') muN
      ⟨[st], 0, none, none, _, rfl, upd_same, (Same.new hF) _ _ hN0, nk0, fd0, Nat.zero_le _, rfl, fun p i hp => absurd hp (Nat.not_lt_zero _), sN.trans (Same.new hF)⟩ ?_ ?_
    · rintro σ H3 ⟨fd, n, v7, v8, kvs, rfl, hF3, hN3, nk, fo, ln, gr, clo, s3⟩
      have fl := fo.few
      refine ⟨_, rfl, _, rfl, F, _, rfl, .inl (.of hF3), _, _, rfl, rfl, _, rfl, ?_⟩
      rw [List.length_map]
      by_cases lt : n < fd.length
      · rw [decide_eq_true (by omega : (n : Int) < (fd.length : Nat))]
        refine iteT ?_
        have hi := List.getElem?_eq_getElem lt
        generalize fd[n] = i0 at hi
        have i0l := fo.lt i0 (List.mem_of_getElem? hi)
        have hrow : R[i0]? = some R[i0] := List.getElem?_eq_getElem i0l
        have rg : R.getD i0 [] = R[i0] := by rw [List.getD_eq_getElem?_getD, hrow]; rfl
        generalize R[i0] = row at hrow rg
        obtain ⟨x, hbx, rq⟩ := paired_at pr hrow
        have rowlen := ok.row row (List.mem_of_getElem? hrow)
        have s03 := s1.trans s3
        have fm : (nsV fd)[n]? = some (.int (i0 : Nat)) := by rw [List.getElem?_map, hi]; rfl
        refine ⟨_, rfl, _, rfl, _, rfl, F, _, (n : Nat), _, rfl, rfl, .of hF3, atI_nat fm, ?_⟩
        refine rix_of (seq_same hq s03) (atI_nat hbx) ?_
        refine ⟨_, rfl, x, row, rfl, rq.same s03, rowlen, fun D2 H4 nD2 hD2 s4 => ⟨D2, rfl, ⟨_, .of hD2⟩, ?_⟩⟩
        have D2F : D2 ≠ F := ne_none nD2 hF3
        have D2N : D2 ≠ N := ne_none nD2 hN3
        have gr' : growN R c (R.length + 1 - (n + 1)) (n + 1) (visN c fd (nds row)) = foundN R c st := by
          rw [show R.length + 1 - n = R.length + 1 - (n + 1) + 1 by omega, growN_succ, hi] at gr
          rw [← rg]; exact gr
        refine for_it walk_list (fun m σ H' => ∃ (fd' : List Nat) (v8 : Option V) (kvs' : List (Key × V)), σ = [some (.ref a), some (.int (st : Nat)), some (.ref C), some (.ref N), some (.ref F), some (.int (n : Nat)), none, some x, v8, none] ∧ H' F = some (.lst (nsV fd')) ∧ H' N = some (.dK kvs') ∧ NumK kvs' (fd'.map (cl c)) ∧
            FdOk R.length c fd' ∧ fd' = visN c fd ((nds row).take m) ∧ (∃ e, fd' = fd ++ e) ∧ (∀ j ∈ (nds row).take m, cl c j ∈ fd'.map (cl c)) ∧ Same H1 H' ∧ H' D2 = some (.lst (nsV (nds row)))) ⟨fd, v8, kvs, rfl, s4 _ _ hF3, s4 _ _ hN3, nk, fo, rfl, ⟨[], (List.append_nil _).symm⟩, by simp, s3.trans s4, hD2⟩ (fun m σ H' _ q => by
            obtain ⟨_, _, _, _, _, _, _, _, _, _, _, _, hq2⟩ := q
            exact .of hq2) ?_ ?_
        · rintro m y σ _ H5 hm ⟨fd', v8, kvs', rfl, hF5, hN5, nk5, fo5, ev, ⟨e5, pre5⟩, mem5, s5, hD5⟩ ⟨rfl, hx⟩
          rw [List.getElem?_map] at hx
          obtain ⟨j, hj, rfl⟩ := Option.map_eq_some_iff.mp hx
          have jm := List.mem_of_getElem? hj
          have jl : j < R.length := ok.nd row (List.mem_of_getElem? hrow) j (nds_mem.mp jm)
          have fl5 := fo5.few
          have tk : (nds row).take (m + 1) = (nds row).take m ++ [j] := by rw [List.take_add_one, hj]; rfl
          have hC5 := s5 _ _ hC
          have cj : atI (nsV c) (j : Nat) = some (.int (cl c j : Nat)) := nsV_at (by rw [lE]; exact jl)
          have ev2 : visN c fd ((nds row).take (m + 1)) = if cl c j ∈ fd'.map (cl c) then fd' else fd' ++ [j] := by rw [tk, visN_snoc, ← ev]
          have fo6 := fo5.put jl
          by_cases h : cl c j ∈ fd'.map (cl c)
          · rw [if_pos h] at ev2
            refine ⟨_, rfl, _, rfl, C, _, (j : Nat), _, rfl, rfl, .of hC5, cj, _, rfl, N, _, rfl, .inl ⟨kvs', Sum.inl ((cl c j : Nat) : Int), .inl hN5, rfl, (nk5.2 (cl c j)).symm⟩, _, rfl, ?_⟩
            rw [if_pos h]
            refine iteF ⟨fd', _, kvs', rfl, hF5, hN5, nk5, fo5, ev2.symm, ⟨e5, pre5⟩, fun j' hj' => ?_, s5, hD5⟩
            rw [tk] at hj'
            rcases List.mem_append.mp hj' with q | q
            · exact mem5 j' q
            · rw [List.mem_singleton.mp q]; exact h
          · rw [if_neg h] at ev2 fo6
            refine ⟨_, rfl, _, rfl, C, _, (j : Nat), _, rfl, rfl, .of hC5, cj, _, rfl, N, _, rfl, .inl ⟨kvs', Sum.inl ((cl c j : Nat) : Int), .inl hN5, rfl, (nk5.2 (cl c j)).symm⟩, _, rfl, ?_⟩
            rw [if_neg h]
            refine iteT ?_
            have lk : kvs'.length = fd'.length := by rw [nk5.1, List.length_map]
            refine ⟨_, rfl, F, _, rfl, .inl (.of hF5), _, rfl, _, rfl, _, rfl, C, _, (j : Nat), _, rfl, rfl, .of hC5, cj, N, _, rfl, DPut.k (k := Sum.inl ((cl c j : Nat) : Int)) hN5 (by omega), ?_⟩
            have hF6 : (upd H5 N (.dK (putK kvs' (Sum.inl ((cl c j : Nat) : Int)) (.int ((nsV fd').length : Nat))))) F = some (.lst (nsV fd')) := by rw [upd_ne FN]; exact hF5
            have hN6 : (upd H5 N (.dK (putK kvs' (Sum.inl ((cl c j : Nat) : Int)) (.int ((nsV fd').length : Nat))))) N = some (.dK (putK kvs' (Sum.inl ((cl c j : Nat) : Int)) (.int ((nsV fd').length : Nat)))) := upd_same
            have s6 : Same H1 (upd H5 N (.dK (putK kvs' (Sum.inl ((cl c j : Nat) : Int)) (.int ((nsV fd').length : Nat))))) := s5.mut nN
            have hD6 : (upd H5 N (.dK (putK kvs' (Sum.inl ((cl c j : Nat) : Int)) (.int ((nsV fd').length : Nat))))) D2 = some (.lst (nsV (nds row))) := by rw [upd_ne D2N]; exact hD5
            have nk6 := nk5.snoc h
            rw [show (fd'.map (cl c)).length = (nsV fd').length by rw [List.length_map, List.length_map]] at nk6
            generalize (upd H5 N (.dK (putK kvs' (Sum.inl ((cl c j : Nat) : Int)) (.int ((nsV fd').length : Nat))))) = H6 at hF6 hN6 s6 hD6
            refine ⟨_, rfl, .inl ⟨rfl, _, .of hF6⟩, _, rfl, F, _, _, rfl, rfl, hF6, by rw [List.length_map]; omega, ?_⟩
            refine ⟨fd' ++ [j], _, _, rfl, by rw [upd_same, nsV_app]; rfl, by rw [upd_ne (Ne.symm FN)]; exact hN6, by rw [List.map_append]; exact nk6, fo6, ev2.symm, ⟨e5 ++ [j], by rw [pre5, List.append_assoc]⟩, fun j' hj' => ?_, s6.mut nF, by rw [upd_ne D2F]; exact hD6⟩
            rw [tk] at hj'
            rw [List.map_append]
            rcases List.mem_append.mp hj' with q | q
            · exact List.mem_append_left _ (mem5 j' q)
            · rw [List.mem_singleton.mp q]; exact List.mem_append_right _ (List.mem_singleton.mpr rfl)
        · rintro σ H5 ⟨fd', v8, kvs', rfl, hF5, hN5, nk5, fo5, ev, ⟨e5, pre5⟩, mem5, s5, hD5⟩
          rw [List.length_map, List.take_length] at ev mem5
          refine ⟨_, rfl, _, _, rfl, rfl, ⟨fd', n + 1, _, _, kvs', rfl, hF5, hN5, nk5, fo5, ?_, by rw [ev]; exact gr', fun p i hp hpi j hj => ?_, s5⟩, ?_⟩
          · rw [pre5, List.length_append]; omega
          · by_cases e : p = n
            · subst e
              have : fd'[p]? = some i0 := by rw [pre5, List.getElem?_append_left lt]; exact hi
              rw [this] at hpi
              cases hpi
              rw [rg] at hj
              exact mem5 j hj
            · have pl : p < fd.length := by omega
              have : fd'[p]? = fd[p]? := by rw [pre5, List.getElem?_append_left pl]
              rw [this] at hpi
              have q := clo p i (by omega) hpi j hj
              rw [pre5, List.map_append]
              exact List.mem_append_left _ q
          · show 100000 - ((n : Int) + 1).toNat < 100000 - (n : Int).toNat
            omega
      · rw [decide_eq_false (by omega : ¬ (n : Int) < (fd.length : Nat))]
        refine iteF ?_
        have efd : fd = foundN R c st := by
          rw [← gr, show R.length + 1 - n = R.length - n + 1 by omega, growN_succ, List.getElem?_eq_none (by omega)]
        have clos : ∀ i ∈ fd, ∀ j ∈ nds (R.getD i []), cl c j ∈ fd.map (cl c) := fun i hi j hj => by
          obtain ⟨p, hp⟩ := List.mem_iff_getElem?.mp hi
          have := (List.getElem?_eq_some_iff.mp hp).1
          exact clo p i (by omega) hp j hj
        have hC3 := s3 _ _ hC
        refine ⟨_, rfl, C, rfl, ⟨_, .of hC3⟩, fun G hG => ?_⟩
        refine lc_it walk_list (fun m H' => Same H3 H' ∧ H' G = some (.lst ((c.take m).map fun x => if x ∈ fd.map (cl c) then V.int (ixG x (fd.map (cl c)) : Nat) else .non))) ⟨Same.new hG, upd_same⟩ (fun m H' _ q => .of (q.1 _ _ hC3)) ?_ ?_
        · rintro m y _ H4 hm ⟨s4, h4⟩ ⟨rfl, hx⟩
          rw [List.getElem?_map] at hx
          obtain ⟨z, hz, rfl⟩ := Option.map_eq_some_iff.mp hx
          rw [List.length_map] at hm
          refine ⟨rfl, yes_then ?_⟩
          have hN4 := s4 _ _ hN3
          refine ⟨_, rfl, N, rfl, .inl ⟨_, .inl hN4⟩, _, rfl, _, .inl ⟨kvs, Sum.inl (z : Int), .inl hN4, rfl, rfl⟩, _, h4, by rw [List.length_map, List.length_take]; omega, s4.mut hG, ?_⟩
          rw [upd_same, List.take_add_one, hz, Option.toList_some, List.map_append, nk.2 z]
          by_cases q : z ∈ fd.map (cl c)
          · rw [if_pos q]
            simp only [List.map_cons, List.map_nil, if_pos q]
            rfl
          · rw [if_neg q]
            simp only [List.map_cons, List.map_nil, if_neg q]
            rfl
        rintro H4 ⟨s4, h4⟩
        rw [List.length_map, List.take_length] at h4
        have hF4 := s4 _ _ hF3
        have s34 := s3.trans s4
        have s04 := s1.trans s34
        have tg : ∀ j, j < R.length → cl c j ∈ fd.map (cl c) → atI (c.map fun x => if x ∈ fd.map (cl c) then V.int (ixG x (fd.map (cl c)) : Nat) else .non) (j : Nat) = some (.int (ixG (cl c j) (fd.map (cl c)) : Nat)) := fun j hj q => atI_nat (by
          have e : c[j]? = some (cl c j) := by unfold cl; rw [List.getD_eq_getElem?_getD, List.getElem?_eq_getElem (by omega)]; rfl
          rw [List.getElem?_map, e]
          show some (if cl c j ∈ fd.map (cl c) then _ else _) = _
          rw [if_pos q])
        refine ⟨_, rfl, F, rfl, ⟨_, .of hF4⟩, fun D hD => ?_⟩
        refine lc_it walk_list (fun m H' => Same H4 H' ∧ ∃ us : List Addr, H' D = some (.lst (us.map V.ref)) ∧ us.length = m ∧ (∀ u ∈ us, u ≠ D ∧ H u = none) ∧ Paired (fun u row => ∃ ts : List Addr, H' u = some (.lst (ts.map V.ref)) ∧ Paired (ItA K H') ts row) us ((fd.take m).map fun i => numRow c fd (R.getD i [])))
          ⟨Same.new hD, [], upd_same, rfl, by simp, .nil⟩ (fun m H' _ q => .of (q.1 _ _ hF4)) ?_ ?_
        · rintro m y _ H5 hm ⟨s5, us, h5, l5, ne5, p5⟩ ⟨rfl, hx⟩
          rw [List.getElem?_map] at hx
          obtain ⟨i, hi, rfl⟩ := Option.map_eq_some_iff.mp hx
          rw [List.length_map] at hm
          have im := List.mem_of_getElem? hi
          have il := fo.lt i im
          have hrow : R[i]? = some R[i] := List.getElem?_eq_getElem il
          have rg : R.getD i [] = R[i] := by rw [List.getD_eq_getElem?_getD, hrow]; rfl
          have cl_i := clos i im
          rw [rg] at cl_i
          generalize R[i] = row at hrow rg cl_i
          obtain ⟨x, hbx, rq⟩ := paired_at pr hrow
          have rm := List.mem_of_getElem? hrow
          have s05 := s04.trans s5
          refine ⟨rfl, yes_then ?_⟩
          refine ⟨_, rfl, _, rfl, ?_⟩
          refine rix_of (seq_same hq s05) (atI_nat hbx) ?_
          refine ⟨_, rfl, x, G, _, row, (fun j => ixG (cl c j) (fd.map (cl c))), rfl, rq.same s05, .of (s5 _ _ h4), ok.row row rm, fun j hj => tg j (ok.nd row rm j hj) (cl_i j (nds_mem.mpr hj)), fun L H6 ts nL hL pt s6 => ?_⟩
          have h6 := s6 _ _ h5
          have LD : L ≠ D := ne_none nL h5
          have pn : SameN H6 (upd H6 D (.lst (us.map V.ref ++ [.ref L]))) := SameN.refl.put h6
          refine ⟨_, h6, by rw [List.length_map, l5]; omega, (s5.trans s6).mut hD, us ++ [L], by rw [upd_same, List.map_append]; rfl, by rw [List.length_append, l5]; rfl, fun u hu => ?_, ?_⟩
          · rcases List.mem_append.mp hu with q | q
            · exact ne5 u q
            · rw [List.mem_singleton.mp q]; exact ⟨LD, s05.free nL⟩
          · rw [List.take_add_one, hi, Option.toList_some, List.map_append]
            refine paired_snoc ?_ ?_
            · have pm : Paired (fun u row => (∃ ts : List Addr, H5 u = some (.lst (ts.map V.ref)) ∧ Paired (ItA K H5) ts row) ∧ u ≠ D) us ((fd.take m).map fun i => numRow c fd (R.getD i [])) := by
                have gen : ∀ {xs : List Addr} {ys : List (List Itm)} {S : Addr → List Itm → Prop}, Paired S xs ys → (∀ u ∈ xs, u ≠ D) → Paired (fun u row => S u row ∧ u ≠ D) xs ys := by
                  intro xs ys S r
                  induction r with
                  | nil => intro _; exact .nil
                  | cons a _ ih => intro h; exact .cons ⟨a, h _ List.mem_cons_self⟩ (ih fun u hu => h u (List.mem_cons_of_mem _ hu))
                exact gen p5 fun u hu => (ne5 u hu).1
              exact paired_same pm fun u row ⟨⟨ts, a1, a2⟩, ne⟩ => ⟨ts, by rw [upd_ne ne]; exact s6 _ _ a1, paired_same a2 fun _ _ z => (z.same s6).sameN pn⟩
            · refine ⟨ts, by rw [upd_ne LD]; exact hL, ?_⟩
              show Paired _ ts (numRow c fd (R.getD i []))
              rw [rg]
              exact paired_same pt fun _ _ z => z.sameN pn
        · rintro H5 ⟨s5, us, h5, l5, ne5, p5⟩
          rw [List.length_map, List.take_length] at p5
          have nD : H D = none := s04.free hD
          refine k D H5 us nD h5 ?_ ne5 (s04.trans s5)
          unfold canonN
          rw [hcE, ← efd]
          exact p5
    · rintro σ H' Q Q' m ⟨x, e1, y, e2, a, ys, e3, h1, i, j, e4, e5, c, e6, q⟩
      exact ⟨x, e1, y, e2, a, ys, e3, h1, i, j, e4, e5, c, e6, m _ _ q⟩
end
end Mf
namespace Mf
open PySem L2
section
variable {P : Program} {w : World} {K : PySem.W.Frag} {mg : Str → Option Value} {base : Heap}
theorem tyx_tupR {H : Hp} {t : Addr} {xs : List V} (h : SqT K H t xs) : TyX K H (.ref t) (.type "tuple") := by
  rcases h with (h | ⟨o, h⟩) | ⟨o, its, n, h, c, _⟩
  · exact .base (.tup h)
  · exact .fTuple h
  · exact .kTuple h c
/-! ### numbers, items, rows -/
def numB (n : Int) : Bool := decide (n.natAbs < 10 ^ 60)
def itB (c : Nat) : Itm → Bool
  | .num n => numB n
  | .wd z => nameB z
  | .gap => true
  | .nd i => decide (i < c)
def rowB (c : Nat) (row : List Itm) : Bool := decide (row.length ≤ 12) && row.all (itB c)
/-- the words are short -/
def WdS (it : Itm) : Prop := ∀ z, it = .wd z → z.length ≤ 1000
def spIsInt : Sp := fun vs H Q _ => ∃ n : Int, vs = [.int n] ∧ Q (.bl true) H
abbrev sIs_integer : Stmt := top 37
theorem scIs_integer : FnScope ["value"] ["value"] (defScope sIs_integer) := ⟨rfl, rfl, rfl, by decide +kernel, rfl, by decide +kernel, by decide +kernel⟩
theorem ok_is_integer {f : Addr} {fd : FuncData} (F : Fun K "is_integer" "is_integer" sIs_integer f fd) (mIsi : mg "isinstance" = none) (mInt : mg "int" = none) (mBool : mg "bool" = none) : FnOk P w K mg base CX0 1 f fd ["value"] spIsInt := by
  refine F.ok scIs_integer (fun vs H Q E h => ?_) (fun cdv A outer s H vs Q E hr h => ?_)
  · obtain ⟨n, rfl, _⟩ := h
    rfl
  · obtain ⟨n, rfl, k⟩ := h
    refine ⟨_, (pss_one (ps_ret (pe_and (pe_callB (k_isi K) (by rfl) mIsi (by decide +kernel) (pa_cons (pv 0) (pa_cons (pe_bltn (v := .ty "int") (by rfl) mInt (by decide +kernel) rfl) pa_nil))) (pe_one (pe_notT (pe_callB (k_isi K) (by rfl) mIsi (by decide +kernel) (pa_cons (pv 0) (pa_cons (pe_bltn (v := .ty "bool") (by rfl) mBool (by decide +kernel) rfl) pa_nil)))))))), ?_⟩
    refine ⟨_, rfl, _, _, _, _, true, rfl, .ty _, .base (.int _), kit_ty (by decide +kernel), _, rfl, iteT ?_⟩
    exact ⟨_, rfl, _, _, _, _, false, rfl, .ty _, .base (.int _), kit_ty (by decide +kernel), false, rfl, k⟩
def spIsNum : Sp := fun vs H Q _ => ∃ n : Int, vs = [.int n] ∧ Q (.bl (numB n)) H
abbrev sIs_number : Stmt := top 38
theorem scIs_number : FnScope ["value"] ["value"] (defScope sIs_number) := ⟨rfl, rfl, rfl, by decide +kernel, rfl, by decide +kernel, by decide +kernel⟩
theorem ok_is_number {f : Addr} {fd : FuncData} (F : Fun K "is_number" "is_number" sIs_number f fd) (mAbs : mg "abs" = none) (c_is_integer : Cal P w K mg base CX0 1 "is_integer" ["value"] spIsInt) : FnOk P w K mg base CX0 2 f fd ["value"] spIsNum := by
  refine F.ok scIs_number (fun vs H Q E h => ?_) (fun cdv A outer s H vs Q E hr h => ?_)
  · obtain ⟨n, rfl, _⟩ := h
    rfl
  · obtain ⟨n, rfl, k⟩ := h
    have hr_is_integer := hr
    refine ⟨_, (pss_one (ps_ret (pe_and (pe_cal c_is_integer hr_is_integer pass0 (pa_cons (pv 0) pa_nil)) (pe_one (pe_cmpR op_lt (pe_callB call_abs (by rfl) mAbs (by decide +kernel) (pa_cons (pv 0) pa_nil)) (pe_op op_pow pe_int pe_int) (nomark _)))))), ?_⟩
    refine ⟨_, rfl, n, rfl, _, rfl, iteT ⟨_, rfl, _, rfl, _, _, rfl, rfl, ⟨by decide, by decide, by decide⟩, _, _, rfl, rfl, ?_⟩⟩
    have e : numB n = decide ((if n < 0 then -n else n) < (10 : Int) ^ (60 : Int).toNat) := by
      unfold numB
      rw [show (60 : Int).toNat = 60 from rfl, show (10 : Int) ^ 60 = ((10 ^ 60 : Nat) : Int) by decide +kernel]
      generalize (10 ^ 60 : Nat) = M
      by_cases c : n < 0
      · rw [if_pos c]
        exact decide_eq_decide.mpr (by omega)
      · rw [if_neg c]
        exact decide_eq_decide.mpr (by omega)
    rw [e] at k
    exact k
def spIsItem (K : PySem.W.Frag) : Sp := fun vs H Q _ => ∃ (t : Addr) (it : Itm) (c : Nat), vs = [.ref t, .int c] ∧ ItA K H t it ∧ WdS it ∧ ∀ H', Same H H' → Q (.bl (itB c it)) H'
abbrev sIs_item : Stmt := top 45
theorem scIs_item : FnScope ["item", "count", "kind", "value"] ["item", "count"] (defScope sIs_item) := ⟨rfl, rfl, rfl, by decide +kernel, rfl, by decide +kernel, by decide +kernel⟩
theorem ok_is_item {f aG : Addr} {fd : FuncData} (F : Fun K "_is_item" "_is_item" sIs_item f fd) (mIsi : mg "isinstance" = none) (mTuple : mg "tuple" = none) (mLen : mg "len" = none) (mg_GAP : mg "GAP" = some (.ref aG)) (qG : ∀ H, SqT K H aG [.str "gap"])
    (c_is_name : Cal P w K mg base CX0 1 "is_name" ["value"] spIsName) (c_is_integer : Cal P w K mg base CX0 1 "is_integer" ["value"] spIsInt) (c_is_number : Cal P w K mg base CX0 2 "is_number" ["value"] spIsNum) : FnOk P w K mg base CX0 3 f fd ["item", "count"] (spIsItem K) := by
  refine F.ok scIs_item (fun vs H Q E h => ?_) (fun cdv A outer s H vs Q E hr h => ?_)
  · obtain ⟨t, it, c, rfl, _⟩ := h
    rfl
  · obtain ⟨t, it, c, rfl, ha, hw, k⟩ := h
    have hr_is_number := hr
    have hr_is_name : Room 1 _ := hr.mono (by decide : 1 ≤ 2)
    have hr_is_integer := hr_is_name
    refine ⟨_, (pss_cons (ps_if (pt_not (pt_val (pe_callB (k_isi K) (by rfl) mIsi (by decide +kernel) (pa_cons (pv 0) (pa_cons (pe_bltn (v := .ty "tuple") (by rfl) mTuple (by decide +kernel) rfl) pa_nil)))))
        (pss_one (ps_ret pe_bl)) pss_nil)
      (pss_cons (ps_if (pt_cmpR op_ne (pe_callB (k_len K) (by rfl) mLen (by decide +kernel) (pa_cons (pv 0) pa_nil)) pe_int (nomark _))
        (pss_one (ps_ret (pe_cmpR (eqD K hr) (pv 0) (pe_glob (v := .ref _) rfl mg_GAP rfl) (nomark _)))) pss_nil)
      (pss_cons (ps_asg (pv 0) (pg_tup rfl (pgs_cons (pg_name (i := 2) scIs_item.nd rfl (by first | exact Or.inl rfl | exact Or.inr rfl)) (pgs_cons (pg_name (i := 3) scIs_item.nd rfl (by first | exact Or.inl rfl | exact Or.inr rfl)) pgs_nil))))
      (pss_cons (ps_if (pt_cmpR op_eq (pv 2) pe_str (nomark _))
        (pss_one (ps_ret (pe_cal c_is_number hr_is_number pass0 (pa_cons (pv 3) pa_nil)))) pss_nil)
      (pss_cons (ps_if (pt_cmpR op_eq (pv 2) pe_str (nomark _))
        (pss_one (ps_ret (pe_cal c_is_name hr_is_name pass0 (pa_cons (pv 3) pa_nil)))) pss_nil)
      (pss_one (ps_ret (pe_and (pe_cmpR op_eq (pv 2) pe_str (nomark _)) (pe_and (pe_cal c_is_integer hr_is_integer pass0 (pa_cons (pv 3) pa_nil)) (pe_one (pe_chain op_le op_lt pe_int (pv 3) (pv 1)))))))))))), ?_⟩
    have sq : SqT K H t (itV it) := ha
    refine ⟨_, rfl, _, _, _, _, true, rfl, .ty _, tyx_tupR sq, kit_ty (by decide +kernel), _, rfl, iteF ?_⟩
    cases it with
    | gap =>
      refine ⟨_, rfl, t, _, rfl, .inr sq, rfl, _, rfl, iteT ?_⟩
      refine ⟨_, rfl, itD .gap, itD .gap, dp_it ha, dp_it (it := .gap) (qG H), (sh_it (it := .gap) fun z e => nomatch e).sh, (sh_it (it := .gap) fun z e => nomatch e).sh, ?_⟩
      rw [eqv_it, decide_eq_true rfl]
      exact k H (Same.refl H)
    | num n =>
      refine ⟨_, rfl, t, _, rfl, .inr sq, rfl, _, rfl, iteF ?_⟩
      refine ⟨_, rfl, t, _, rfl, sq, rfl, _, _, rfl, _, _, rfl, rfl, ?_⟩
      refine ⟨_, rfl, rfl, _, rfl, ite2 (fun _ => ?_) fun e => absurd (decide_eq_true rfl) e⟩
      exact ⟨_, rfl, n, rfl, k H (Same.refl H)⟩
    | wd z =>
      refine ⟨_, rfl, t, _, rfl, .inr sq, rfl, _, rfl, iteF ?_⟩
      refine ⟨_, rfl, t, _, rfl, sq, rfl, _, _, rfl, _, _, rfl, rfl, ?_⟩
      refine ⟨_, rfl, rfl, _, rfl, ite2 (fun e => absurd (V.str.inj (of_decide_eq_true e)) (by decide)) fun _ => ?_⟩
      refine ⟨_, rfl, rfl, _, rfl, ite2 (fun _ => ?_) fun e => absurd (decide_eq_true rfl) e⟩
      exact ⟨_, rfl, z, rfl, Nat.le_trans (hw z rfl) (by decide), k⟩
    | nd i =>
      refine ⟨_, rfl, t, _, rfl, .inr sq, rfl, _, rfl, iteF ?_⟩
      refine ⟨_, rfl, t, _, rfl, sq, rfl, _, _, rfl, _, _, rfl, rfl, ?_⟩
      refine ⟨_, rfl, rfl, _, rfl, ite2 (fun e => absurd (V.str.inj (of_decide_eq_true e)) (by decide)) fun _ => ?_⟩
      refine ⟨_, rfl, rfl, _, rfl, ite2 (fun e => absurd (V.str.inj (of_decide_eq_true e)) (by decide)) fun _ => ?_⟩
      refine ⟨_, rfl, rfl, _, rfl, ite2 (fun _ => ?_) fun e => absurd (decide_eq_true rfl) e⟩
      refine ⟨_, rfl, _, rfl, _, rfl, iteT ?_⟩
      refine ⟨_, rfl, _, _, rfl, rfl, _, rfl, ?_⟩
      rw [decide_eq_true (show (0 : Int) ≤ (i : Nat) by omega)]
      refine iteT ⟨_, rfl, _, _, rfl, rfl, ?_⟩
      have z := k H (Same.refl H)
      rw [show itB c (.nd i) = decide ((i : Int) < (c : Nat)) from decide_eq_decide.mpr (by omega)] at z
      exact z
def spIsRow (K : PySem.W.Frag) : Sp := fun vs H Q _ => ∃ (v : V) (row : List Itm) (c : Nat), vs = [v, .int c] ∧ RowQ K H v row ∧ (∀ it ∈ row, WdS it) ∧ ∀ H', Same H H' → Q (.bl (rowB c row)) H'
abbrev sIs_row : Stmt := top 44
theorem scIs_row : FnScope ["row", "count", "item"] ["row", "count"] (defScope sIs_row) := ⟨rfl, rfl, rfl, by decide +kernel, rfl, by decide +kernel, by decide +kernel⟩
theorem ok_is_row {f : Addr} {fd : FuncData} {tk : Tok} (F : Fun K "_is_row" "_is_row" sIs_row f fd) (mLen : mg "len" = none) (mAll : mg "all" = none) (mg_MOST_ITEMS : mg "MOST_ITEMS" = some (.int 12 tk)) (c__is_item : Cal P w K mg base CX0 3 "_is_item" ["item", "count"] (spIsItem K)) : FnOk P w K mg base CX0 4 f fd ["row", "count"] (spIsRow K) := by
  refine F.ok scIs_row (fun vs H Q E h => ?_) (fun cdv A outer s H vs Q E hr h => ?_)
  · obtain ⟨v, row, c, rfl, _⟩ := h
    rfl
  · obtain ⟨v, row, c, rfl, ⟨a, us, rfl, hq, pr⟩, hw, k⟩ := h
    have hr__is_item := hr
    have ln := Paired.length pr
    refine ⟨_, (pss_one (ps_ret (pe_and (pe_cmpR op_le (pe_callB (k_len K) (by rfl) mLen (by decide +kernel) (pa_cons (pv 0) pa_nil)) (pe_glob (v := .int 12) rfl mg_MOST_ITEMS ⟨_, rfl⟩) (nomark _)) (pe_one (pe_callB (k_all K) (by rfl) mAll (by decide +kernel) (pa_cons (pe_lc (own := [("item", 2)]) (g := (gName 2)) (tt := tYes) rfl scIs_row.nd (piS K (pv 0)) (blkOk_by (own := [("item", 2)]) (N := ["row", "count", "item"]) (sc := defScope sIs_row) (by decide +kernel)) (fun _ _ _ _ _ => (pg_name (i := 2) scIs_row.nd rfl (by first | exact Or.inl rfl | exact Or.inr rfl))) (fun _ _ _ _ _ => pts_nil) (fun _ _ _ _ _ => (pe_cal c__is_item hr__is_item pass0 (pa_cons (pv 2) (pa_cons (pv 1) pa_nil))))) pa_nil)))))), ?_⟩
    refine ⟨_, rfl, a, _, rfl, hq, _, _, rfl, rfl, _, rfl, ite2 (fun q => ?_) fun q => ?_⟩
    · have f12 : row.length ≤ 12 := by
        have q := of_decide_eq_true q
        rw [List.length_map, ln] at q
        omega
      refine ⟨_, rfl, a, _, rfl, hq, fun J G wk hG D hD => ?_⟩
      refine lc_bools (fs := row.map (itB c)) wk (by rw [List.length_map, List.length_map, ln]) (by rw [List.length_map]; omega) hD hG (fun i x b H' Qe Pf hx hb s' kk => ?_) fun H1 s1 h1 => ?_
      · rw [List.getElem?_map] at hx hb
        obtain ⟨t, ht, rfl⟩ := Option.map_eq_some_iff.mp hx
        obtain ⟨it, hit, sq⟩ := paired_get pr ht
        rw [hit] at hb
        obtain rfl := Option.some.inj hb
        refine ⟨rfl, yes_then ?_⟩
        exact ⟨_, rfl, _, rfl, t, it, c, rfl, sq.same s', hw it (List.mem_of_getElem? hit), fun H3 s3 => kk H3 s3⟩
      · refine ⟨D, _, rfl, .of h1, ?_⟩
        have e : rowB c row = (row.map (itB c)).all id := by
          unfold rowB
          rw [decide_eq_true f12, Bool.true_and, List.all_map]; rfl
        rw [← e]
        exact k H1 s1
    · have few : decide (row.length ≤ 12) = false := by
        refine decide_eq_false fun h => q (decide_eq_true ?_)
        rw [List.length_map, ln]
        omega
      have e : rowB c row = false := by unfold rowB; rw [few, Bool.false_and]
      have z := k H (Same.refl H)
      rw [e] at z
      exact z
/-- rows that are right -/
structure RtR (R : List (List Itm)) : Prop where
  ne : R ≠ []
  few : R.length ≤ 40
  row : ∀ r ∈ R, rowB R.length r = true
theorem RtR.it {R : List (List Itm)} (x : RtR R) : ∀ r ∈ R, ∀ it ∈ r, itB R.length it = true := fun r hr it hi => List.all_eq_true.mp (Bool.and_eq_true_iff.mp (x.row r hr)).2 it hi
theorem RtR.len {R : List (List Itm)} (x : RtR R) : ∀ r ∈ R, r.length ≤ 12 := fun r hr => of_decide_eq_true (Bool.and_eq_true_iff.mp (x.row r hr)).1
theorem itB_wd {c : Nat} {it : Itm} (h : itB c it = true) : WdS it := fun z e => by
  subst e
  have := ((nameB_iff z).mp h).len
  omega
theorem RtR.ok {R : List (List Itm)} (x : RtR R) : RwOk R := ⟨Nat.le_trans x.few (by decide), fun r hr => Nat.le_trans (x.len r hr) (by decide), fun r hr i hi => of_decide_eq_true (x.it r hr _ hi)⟩
def spCheckR (K : PySem.W.Frag) : Sp := fun vs H Q _ => ∃ (v : V) (R : List (List Itm)), vs = [v] ∧ RowsQ K H v R ∧ RtR R ∧ ∀ H', Same H H' → Q .non H'
abbrev sCheck_rows : Stmt := top 43
theorem scCheck_rows : FnScope ["rows", "line", "row"] ["rows"] (defScope sCheck_rows) := ⟨rfl, rfl, rfl, by decide +kernel, rfl, by decide +kernel, by decide +kernel⟩
theorem ok_check_rows {f : Addr} {fd : FuncData} {tk : Tok} (F : Fun K "check_rows" "check_rows" sCheck_rows f fd) (mEnum : mg "enumerate" = none) (mLen : mg "len" = none) (mg_MOST_ROWS : mg "MOST_ROWS" = some (.int 40 tk)) (c__is_row : Cal P w K mg base CX0 4 "_is_row" ["row", "count"] (spIsRow K)) : FnOk P w K mg base CX0 5 f fd ["rows"] (spCheckR K) := by
  refine F.ok scCheck_rows (fun vs H Q E h => ?_) (fun cdv A outer s H vs Q E hr h => ?_)
  · obtain ⟨v, R, rfl, _⟩ := h
    rfl
  · obtain ⟨v, R, rfl, ⟨a, bs, rfl, hq, pr⟩, rt, k⟩ := h
    have hr__is_row := hr
    have ln := Paired.length pr
    have few := rt.few
    refine ⟨_, (pss_cons (ps_for PassesOwn.never rfl (pi_enumS (by rfl) mEnum (pa_cons (pv 0) pa_nil) (by decide) (by decide)) (pg_tup rfl (pgs_cons (pg_name (i := 1) scCheck_rows.nd rfl (by first | exact Or.inl rfl | exact Or.inr rfl)) (pgs_cons (pg_name (i := 2) scCheck_rows.nd rfl (by first | exact Or.inl rfl | exact Or.inr rfl)) pgs_nil)))
        (pss_one (ps_if (PW.pt (pw_or (pt_cmpR op_gt (pv 1) (pe_glob (v := .int 40) rfl mg_MOST_ROWS ⟨_, rfl⟩) (nomark _)) (pw_or1 (pt_not (pt_val (pe_cal c__is_row hr__is_row pass0 (pa_cons (pv 2) (pa_cons (pe_callB (k_len K) (by rfl) mLen (by decide +kernel) (pa_cons (pv 0) pa_nil)) pa_nil))))))))
          (pss_one ps_never) pss_nil)))
      (pss_one (ps_if (pt_cmpR op_eq (pe_callB (k_len K) (by rfl) mLen (by decide +kernel) (pa_cons (pv 0) pa_nil)) pe_int (nomark _))
        (pss_one ps_never) pss_nil))), ?_⟩
    refine ⟨_, rfl, a, bs, rfl, ?_⟩
    rcases hq with hq | hq
    · refine .inl ⟨hq, ?_⟩
      refine for_it walk_enumSL (fun i σ H' => ∃ (v1 v2 : Option V), σ = [some (.ref a), v1, v2] ∧ Same H H') ⟨none, none, rfl, Same.refl H⟩ (fun i σ H' _ q => SameL q.choose_spec.choose_spec.2 hq) ?_ ?_
      · rintro i x σ H1 H2 hi ⟨v1, v2, rfl, s1⟩ ⟨T, x1, y, rfl, hT, rfl, e1, e2⟩
        obtain rfl : x1 = .int (1 + (i : Nat)) := (Option.some.inj e1).symm
        have e2 : bs[i]? = some y := e2
        obtain ⟨row, hrow, rq⟩ := paired_get pr e2
        have rm := List.mem_of_getElem? hrow
        have s2 := s1.trans (Same.new (o := .tup [.int (1 + (i : Nat)), y]) hT)
        refine ⟨T, _, rfl, .of upd_same, rfl, _, _, rfl, _, _, rfl, rfl, ?_⟩
        refine ⟨_, rfl, _, _, rfl, rfl, _, rfl, ?_⟩
        rw [decide_eq_false (by omega : ¬ (40 : Int) < 1 + (i : Nat))]
        refine iteF ?_
        refine ⟨_, rfl, _, rfl, a, bs, rfl, seq_same (.inl hq) s2, ?_⟩
        refine ⟨y, row, bs.length, rfl, rq.same s2, fun it hi => itB_wd (rt.it row rm it hi), fun H3 s3 => ?_⟩
        rw [ln, rt.row row rm]
        exact ⟨_, rfl, iteF ⟨_, _, rfl, s2.trans s3⟩⟩
      · rintro σ H1 ⟨v1, v2, rfl, s1⟩
        refine ⟨_, rfl, a, bs, rfl, seq_same (.inl hq) s1, rfl, _, rfl, ite2 (fun e => ?_) fun _ => k H1 s1⟩
        have e := V.int.inj (of_decide_eq_true e)
        have := rt.ne
        exact absurd (List.length_eq_zero_iff.mp (by omega)) this
    · refine .inr ⟨hq, ?_⟩
      refine for_it walk_enumST (fun i σ H' => ∃ (v1 v2 : Option V), σ = [some (.ref a), v1, v2] ∧ Same H H') ⟨none, none, rfl, Same.refl H⟩ (fun i σ H' _ q => q.choose_spec.choose_spec.2.tup hq) ?_ ?_
      · rintro i x σ H1 H2 hi ⟨v1, v2, rfl, s1⟩ ⟨T, x1, y, rfl, hT, rfl, e1, e2⟩
        obtain rfl : x1 = .int (1 + (i : Nat)) := (Option.some.inj e1).symm
        have e2 : bs[i]? = some y := e2
        obtain ⟨row, hrow, rq⟩ := paired_get pr e2
        have rm := List.mem_of_getElem? hrow
        have s2 := s1.trans (Same.new (o := .tup [.int (1 + (i : Nat)), y]) hT)
        refine ⟨T, _, rfl, .of upd_same, rfl, _, _, rfl, _, _, rfl, rfl, ?_⟩
        refine ⟨_, rfl, _, _, rfl, rfl, _, rfl, ?_⟩
        rw [decide_eq_false (by omega : ¬ (40 : Int) < 1 + (i : Nat))]
        refine iteF ?_
        refine ⟨_, rfl, _, rfl, a, bs, rfl, seq_same (.inr hq) s2, ?_⟩
        refine ⟨y, row, bs.length, rfl, rq.same s2, fun it hi => itB_wd (rt.it row rm it hi), fun H3 s3 => ?_⟩
        rw [ln, rt.row row rm]
        exact ⟨_, rfl, iteF ⟨_, _, rfl, s2.trans s3⟩⟩
      · rintro σ H1 ⟨v1, v2, rfl, s1⟩
        refine ⟨_, rfl, a, bs, rfl, seq_same (.inr hq) s1, rfl, _, rfl, ite2 (fun e => ?_) fun _ => k H1 s1⟩
        have e := V.int.inj (of_decide_eq_true e)
        have := rt.ne
        exact absurd (List.length_eq_zero_iff.mp (by omega)) this
end
end Mf
/-! results as unfoldings of rows: when two are equal, and where they first differ -/
namespace Mf
open PySem L2
abbrev Rws := List (List Itm)
/-! ### shortest, then least -/
def lexL : List Nat → List Nat → Prop
  | a :: as, b :: bs => a < b ∨ (a = b ∧ lexL as bs)
  | _, _ => False
theorem lexL_irr : ∀ a : List Nat, ¬ lexL a a
  | [] => fun h => h
  | x :: xs => fun h => h.elim (fun l => Nat.lt_irrefl _ l) fun ⟨_, l⟩ => lexL_irr xs l
theorem lexL_trans : ∀ {a b c : List Nat}, lexL a b → lexL b c → lexL a c
  | [], _, _, h, _ => h.elim
  | _ :: _, [], _, h, _ => h.elim
  | _ :: _, _ :: _, [], _, h => h.elim
  | x :: xs, y :: ys, z :: zs, h, k => by
    rcases h with h | ⟨rfl, h⟩
    · rcases k with k | ⟨rfl, k⟩
      · exact .inl (Nat.lt_trans h k)
      · exact .inl h
    · rcases k with k | ⟨rfl, k⟩
      · exact .inl k
      · exact .inr ⟨rfl, lexL_trans h k⟩
theorem lexL_tri : ∀ {a b : List Nat}, a.length = b.length → lexL a b ∨ a = b ∨ lexL b a
  | [], [], _ => .inr (.inl rfl)
  | [], _ :: _, h => by simp at h
  | _ :: _, [], h => by simp at h
  | x :: xs, y :: ys, h => by
    rcases Nat.lt_trichotomy x y with l | rfl | l
    · exact .inl (.inl l)
    · rcases lexL_tri (a := xs) (b := ys) (by simpa using h) with l | rfl | l
      · exact .inl (.inr ⟨rfl, l⟩)
      · exact .inr (.inl rfl)
      · exact .inr (.inr (.inr ⟨rfl, l⟩))
    · exact .inr (.inr (.inl l))
theorem lexL_app : ∀ {a b : List Nat} (x y : List Nat), a.length = b.length → lexL a b → lexL (a ++ x) (b ++ y)
  | [], [], _, _, _, h => h.elim
  | [], _ :: _, _, _, h, _ => by simp at h
  | _ :: _, [], _, _, h, _ => by simp at h
  | p :: xs, q :: ys, x, y, l, h => by
    rcases h with h | ⟨rfl, h⟩
    · exact .inl h
    · exact .inr ⟨rfl, lexL_app x y (by simpa using l) h⟩
theorem lexL_last : ∀ (a : List Nat) {x y : Nat}, x < y → lexL (a ++ [x]) (a ++ [y])
  | [], _, _, h => .inl h
  | _ :: xs, _, _, h => .inr ⟨rfl, lexL_last xs h⟩
def slt (a b : List Nat) : Prop := a.length < b.length ∨ (a.length = b.length ∧ lexL a b)
def sle (a b : List Nat) : Prop := slt a b ∨ a = b
theorem slt_irr (a : List Nat) : ¬ slt a a := fun h => h.elim (fun l => Nat.lt_irrefl _ l) fun ⟨_, l⟩ => lexL_irr a l
theorem slt_trans {a b c : List Nat} (h : slt a b) (k : slt b c) : slt a c := by
  rcases h with h | ⟨e, h⟩
  · rcases k with k | ⟨e2, k⟩
    · exact .inl (Nat.lt_trans h k)
    · exact .inl (by omega)
  · rcases k with k | ⟨e2, k⟩
    · exact .inl (by omega)
    · exact .inr ⟨by omega, lexL_trans h k⟩
theorem slt_tri (a b : List Nat) : slt a b ∨ a = b ∨ slt b a := by
  rcases Nat.lt_trichotomy a.length b.length with l | l | l
  · exact .inl (.inl l)
  · rcases lexL_tri l with h | h | h
    · exact .inl (.inr ⟨l, h⟩)
    · exact .inr (.inl h)
    · exact .inr (.inr (.inr ⟨l.symm, h⟩))
  · exact .inr (.inr (.inl l))
theorem slt_snoc {a b : List Nat} (x y : Nat) (h : slt a b) : slt (a ++ [x]) (b ++ [y]) := by
  rcases h with h | ⟨e, h⟩
  · exact .inl (by simp; omega)
  · exact .inr ⟨by simp; omega, lexL_app _ _ e h⟩
theorem slt_more (a : List Nat) (x : Nat) : slt a (a ++ [x]) := .inl (by simp)
theorem slt_last (a : List Nat) {x y : Nat} (h : x < y) : slt (a ++ [x]) (a ++ [y]) := .inr ⟨by simp, lexL_last a h⟩
theorem sle_snoc {a b : List Nat} (x : Nat) (h : sle a b) : sle (a ++ [x]) (b ++ [x]) := h.elim (fun h => .inl (slt_snoc x x h)) fun h => .inr (by rw [h])
theorem sle_trans {a b c : List Nat} (h : sle a b) (k : sle b c) : sle a c := by
  rcases h with h | rfl
  · rcases k with k | rfl
    · exact .inl (slt_trans h k)
    · exact .inl h
  · exact k
theorem sle_slt {a b c : List Nat} (h : sle a b) (k : slt b c) : slt a c := by
  rcases h with h | rfl
  · exact slt_trans h k
  · exact k
theorem slt_sle {a b c : List Nat} (h : slt a b) (k : sle b c) : slt a c := by
  rcases k with k | rfl
  · exact slt_trans h k
  · exact h
/-! ### two rows side by side -/
def mis (a b : Option Itm) : Prop := ¬ (∃ i j, a = some (.nd i) ∧ b = some (.nd j)) ∧ a ≠ b
def RowRel (B : Nat → Nat → Prop) (r1 r2 : List Itm) : Prop := ∀ x : Nat, (∃ i j, r1[x]? = some (.nd i) ∧ r2[x]? = some (.nd j) ∧ B i j) ∨ (¬ (∃ i j, r1[x]? = some (.nd i) ∧ r2[x]? = some (.nd j)) ∧ r1[x]? = r2[x]?)
def Sim (R1 R2 : Rws) (B : Nat → Nat → Prop) : Prop := ∀ i j, B i j → RowRel B (R1.getD i []) (R2.getD j [])
/-- the results of the rows i and j are equal -/
def Bis (R1 R2 : Rws) (i j : Nat) : Prop := ∃ B, Sim R1 R2 B ∧ B i j
theorem RowRel.imp {B C : Nat → Nat → Prop} {r1 r2 : List Itm} (h : RowRel B r1 r2) (k : ∀ i j, B i j → C i j) : RowRel C r1 r2 := fun x => (h x).imp (fun ⟨i, j, a, b, c⟩ => ⟨i, j, a, b, k i j c⟩) id
theorem Bis.row {R1 R2 : Rws} {i j : Nat} (h : Bis R1 R2 i j) : RowRel (Bis R1 R2) (R1.getD i []) (R2.getD j []) := let ⟨B, s, b⟩ := h; (s i j b).imp fun _ _ q => ⟨B, s, q⟩
theorem Bis.sim (R1 R2 : Rws) : Sim R1 R2 (Bis R1 R2) := fun _ _ h => h.row
theorem Bis.refl (R : Rws) (i : Nat) : Bis R R i i := ⟨Eq, fun i j e => by
  subst e
  intro x
  by_cases h : ∃ a, (R.getD i [])[x]? = some (.nd a)
  · obtain ⟨a, e⟩ := h
    exact .inl ⟨a, a, e, e, rfl⟩
  · exact .inr ⟨fun ⟨a, b, c, _⟩ => h ⟨a, c⟩, rfl⟩, rfl⟩
theorem Bis.symm {R1 R2 : Rws} {i j : Nat} (h : Bis R1 R2 i j) : Bis R2 R1 j i := ⟨fun j i => Bis R1 R2 i j, fun j i q x => by
  rcases q.row x with ⟨a, b, e1, e2, c⟩ | ⟨n, e⟩
  · exact .inl ⟨b, a, e2, e1, c⟩
  · exact .inr ⟨fun ⟨a, b, e1, e2⟩ => n ⟨b, a, e2, e1⟩, e.symm⟩, h⟩
theorem Bis.trans {R1 R2 R3 : Rws} {i j k : Nat} (h : Bis R1 R2 i j) (h2 : Bis R2 R3 j k) : Bis R1 R3 i k := ⟨fun i k => ∃ j, Bis R1 R2 i j ∧ Bis R2 R3 j k, fun i k ⟨j, q, q2⟩ x => by
  rcases q.row x with ⟨a, b, e1, e2, c⟩ | ⟨n, e⟩
  · rcases q2.row x with ⟨a2, b2, e3, e4, c2⟩ | ⟨n2, e'⟩
    · rw [e2] at e3
      cases e3
      exact .inl ⟨a, b2, e1, e4, b, c, c2⟩
    · exact absurd ⟨b, b, e2, e'.symm.trans e2⟩ n2
  · rcases q2.row x with ⟨a2, b2, e3, e4, c2⟩ | ⟨n2, e'⟩
    · exact absurd ⟨a2, a2, e.trans e3, e3⟩ n
    · refine .inr ⟨fun ⟨a, b, e1, e2⟩ => n ⟨a, a, e1, e.symm.trans e1⟩, e.trans e'⟩, j, h, h2⟩
/-! ### where two results differ -/
inductive Walk2 (R1 R2 : Rws) (s : Nat × Nat) : List Nat → Nat × Nat → Prop
  | nil : Walk2 R1 R2 s [] s
  | snoc {z : List Nat} {p q : Nat × Nat} {x : Nat} (h : Walk2 R1 R2 s z p) (a : (R1.getD p.1 [])[x]? = some (.nd q.1)) (b : (R2.getD p.2 [])[x]? = some (.nd q.2)) : Walk2 R1 R2 s (z ++ [x]) q
/-- they differ at the path z -/
def Dif (R1 R2 : Rws) (s : Nat × Nat) (z : List Nat) : Prop := ∃ (z' : List Nat) (x : Nat) (p : Nat × Nat), z = z' ++ [x] ∧ Walk2 R1 R2 s z' p ∧ mis (R1.getD p.1 [])[x]? (R2.getD p.2 [])[x]?
theorem mis_not {B : Nat → Nat → Prop} {r1 r2 : List Itm} (h : RowRel B r1 r2) (x : Nat) : ¬ mis r1[x]? r2[x]? := fun ⟨n, ne⟩ => by
  rcases h x with ⟨a, b, e1, e2, _⟩ | ⟨_, e⟩
  · exact n ⟨a, b, e1, e2⟩
  · exact ne e
theorem walk_bis {R1 R2 : Rws} {s : Nat × Nat} (h : Bis R1 R2 s.1 s.2) {z : List Nat} {p : Nat × Nat} (w : Walk2 R1 R2 s z p) : Bis R1 R2 p.1 p.2 := by
  induction w with
  | nil => exact h
  | @snoc z p q x _ a b ih =>
    rcases ih.row x with ⟨i, j, e1, e2, c⟩ | ⟨n, e⟩
    · rw [a] at e1
      rw [b] at e2
      injection e1 with e1; injection e1 with e1
      injection e2 with e2; injection e2 with e2
      rw [e1, e2]; exact c
    · exact absurd ⟨_, _, a, b⟩ n
theorem bis_no {R1 R2 : Rws} {s : Nat × Nat} (h : Bis R1 R2 s.1 s.2) (z : List Nat) : ¬ Dif R1 R2 s z := fun ⟨_, x, _, _, w, m⟩ => mis_not (walk_bis h w).row x m
theorem Walk2.swap {R1 R2 : Rws} {s : Nat × Nat} {z : List Nat} {p : Nat × Nat} (w : Walk2 R1 R2 s z p) : Walk2 R2 R1 (s.2, s.1) z (p.2, p.1) := by
  induction w with
  | nil => exact .nil
  | snoc _ a b ih => exact .snoc ih b a
theorem mis_symm {a b : Option Itm} (h : mis a b) : mis b a := ⟨fun ⟨i, j, x, y⟩ => h.1 ⟨j, i, y, x⟩, fun e => h.2 e.symm⟩
theorem Dif.swap {R1 R2 : Rws} {s : Nat × Nat} {z : List Nat} (h : Dif R1 R2 s z) : Dif R2 R1 (s.2, s.1) z := let ⟨z', x, p, e, w, m⟩ := h; ⟨z', x, (p.2, p.1), e, w.swap, mis_symm m⟩
/-- rows of equal results: the same paths, the same differences -/
theorem walk_move {R1 R2 S1 S2 : Rws} {s t : Nat × Nat} (h1 : Bis R1 S1 s.1 t.1) (h2 : Bis R2 S2 s.2 t.2) {z : List Nat} {p : Nat × Nat} (w : Walk2 R1 R2 s z p) : ∃ q, Walk2 S1 S2 t z q ∧ Bis R1 S1 p.1 q.1 ∧ Bis R2 S2 p.2 q.2 := by
  induction w with
  | nil => exact ⟨t, .nil, h1, h2⟩
  | @snoc z p q x _ a b ih =>
    obtain ⟨q', w', b1, b2⟩ := ih
    rcases b1.row x with ⟨i, j, e1, e2, c⟩ | ⟨n, e⟩
    · rw [a] at e1
      injection e1 with e1; injection e1 with e1
      rcases b2.row x with ⟨i2, j2, e3, e4, c2⟩ | ⟨n, e⟩
      · rw [b] at e3
        injection e3 with e3; injection e3 with e3
        exact ⟨(j, j2), .snoc w' e2 e4, by rw [e1]; exact c, by rw [e3]; exact c2⟩
      · exact absurd ⟨_, _, b, e.symm.trans b⟩ n
    · exact absurd ⟨_, _, a, e.symm.trans a⟩ n
theorem row_nd {B : Nat → Nat → Prop} {r1 r2 : List Itm} (h : RowRel B r1 r2) (x : Nat) : (∃ i, r1[x]? = some (.nd i)) ↔ ∃ j, r2[x]? = some (.nd j) := by
  rcases h x with ⟨a, b, e1, e2, _⟩ | ⟨_, e⟩
  · exact ⟨fun _ => ⟨b, e2⟩, fun _ => ⟨a, e1⟩⟩
  · rw [e]
theorem row_eq {B : Nat → Nat → Prop} {r1 r2 : List Itm} (h : RowRel B r1 r2) {x : Nat} (n : ¬ ∃ i, r1[x]? = some (.nd i)) : r1[x]? = r2[x]? := by
  rcases h x with ⟨a, b, e1, e2, _⟩ | ⟨_, e⟩
  · exact absurd ⟨a, e1⟩ n
  · exact e
theorem mis_move {B C : Nat → Nat → Prop} {r1 r2 q1 q2 : List Itm} (h1 : RowRel B r1 q1) (h2 : RowRel C r2 q2) {x : Nat} (m : mis r1[x]? r2[x]?) : mis q1[x]? q2[x]? := by
  obtain ⟨n, ne⟩ := m
  have i1 := row_nd h1 x
  have i2 := row_nd h2 x
  refine ⟨fun ⟨i, j, a, b⟩ => ?_, fun e => ?_⟩
  · obtain ⟨i', a'⟩ := i1.mpr ⟨i, a⟩
    obtain ⟨j', b'⟩ := i2.mpr ⟨j, b⟩
    exact n ⟨i', j', a', b'⟩
  · by_cases c : ∃ i, r1[x]? = some (.nd i)
    · obtain ⟨i', a'⟩ := i1.mp c
      obtain ⟨j', b'⟩ := i2.mpr ⟨i', e ▸ a'⟩
      obtain ⟨i, a⟩ := c
      exact n ⟨i, j', a, b'⟩
    · have e1 := row_eq h1 c
      by_cases d : ∃ i, r2[x]? = some (.nd i)
      · obtain ⟨j', b'⟩ := i2.mp d
        obtain ⟨i', a'⟩ := i1.mpr ⟨j', e.symm ▸ b'⟩
        exact c ⟨i', a'⟩
      · exact ne (e1.trans (e.trans (row_eq h2 d).symm))
theorem Dif.move {R1 R2 S1 S2 : Rws} {s t : Nat × Nat} (h1 : Bis R1 S1 s.1 t.1) (h2 : Bis R2 S2 s.2 t.2) {z : List Nat} (d : Dif R1 R2 s z) : Dif S1 S2 t z := by
  obtain ⟨z', x, p, e, w, m⟩ := d
  obtain ⟨q, w', b1, b2⟩ := walk_move h1 h2 w
  exact ⟨z', x, q, e, w', mis_move b1.row b2.row m⟩
/-- the first difference -/
def Fst (R1 R2 : Rws) (s : Nat × Nat) (z : List Nat) : Prop := Dif R1 R2 s z ∧ ∀ y, Dif R1 R2 s y → ¬ slt y z
theorem Fst.uniq {R1 R2 : Rws} {s : Nat × Nat} {y z : List Nat} (h : Fst R1 R2 s y) (k : Fst R1 R2 s z) : y = z := by
  rcases slt_tri y z with l | l | l
  · exact absurd l (k.2 y h.1)
  · exact l
  · exact absurd l (h.2 z k.1)
theorem Fst.swap {R1 R2 : Rws} {s : Nat × Nat} {z : List Nat} (h : Fst R1 R2 s z) : Fst R2 R1 (s.2, s.1) z := ⟨h.1.swap, fun y d => h.2 y d.swap⟩
theorem Fst.move {R1 R2 S1 S2 : Rws} {s t : Nat × Nat} (h1 : Bis R1 S1 s.1 t.1) (h2 : Bis R2 S2 s.2 t.2) {z : List Nat} (d : Fst R1 R2 s z) : Fst S1 S2 t z := ⟨d.1.move h1 h2, fun y q => d.2 y (q.move h1.symm h2.symm)⟩
/-! ### the walk over pairs -/
abbrev Qn := List ((Nat × Nat) × List Nat)
/-- what becomes of the items at x -/
def visit (a b : Option Itm) (p : List Nat) (x : Nat) (qs : Qn) : Qn ⊕ List Nat :=
  match a, b with
  | some (.nd i), some (.nd j) => .inl (if (i, j) ∈ qs.map (·.1) then qs else qs ++ [((i, j), p ++ [x])])
  | a, b => if a = b then .inl qs else .inr (p ++ [x])
def scan (r1 r2 : List Itm) (p : List Nat) : Nat → Nat → Qn → Qn ⊕ List Nat
  | 0, _, qs => .inl qs
  | n + 1, x, qs => match visit r1[x]? r2[x]? p x qs with
    | .inl qs' => scan r1 r2 p n (x + 1) qs'
    | .inr e => .inr e
theorem scan_succ (r1 r2 : List Itm) (p : List Nat) (n x : Nat) (qs : Qn) : scan r1 r2 p (n + 1) x qs = match visit r1[x]? r2[x]? p x qs with
    | .inl qs' => scan r1 r2 p n (x + 1) qs'
    | .inr e => .inr e := rfl
theorem scan_zero (r1 r2 : List Itm) (p : List Nat) (x : Nat) (qs : Qn) : scan r1 r2 p 0 x qs = .inl qs := rfl
def bfs (R1 R2 : Rws) : Nat → Nat → Qn → Option (List Nat)
  | 0, _, _ => none
  | n + 1, at_, qs => match qs[at_]? with
    | none => none
    | some (p, z) => match scan (R1.getD p.1 []) (R2.getD p.2 []) z (max (R1.getD p.1 []).length (R2.getD p.2 []).length) 0 qs with
      | .inl qs' => bfs R1 R2 n (at_ + 1) qs'
      | .inr e => some e
/-- the first path at which the rows differ -/
def difP (R1 R2 : Rws) (i j : Nat) : Option (List Nat) := bfs R1 R2 2000 0 [((i, j), [])]
theorem visit_nd (i j : Nat) (p : List Nat) (x : Nat) (qs : Qn) : visit (some (.nd i)) (some (.nd j)) p x qs = .inl (if (i, j) ∈ qs.map (·.1) then qs else qs ++ [((i, j), p ++ [x])]) := rfl
theorem visit_no {a b : Option Itm} (h : ¬ ∃ i j, a = some (.nd i) ∧ b = some (.nd j)) (p : List Nat) (x : Nat) (qs : Qn) : visit a b p x qs = if a = b then .inl qs else .inr (p ++ [x]) := by
  unfold visit
  split
  · exact absurd ⟨_, _, rfl, rfl⟩ h
  · rfl
/-- what stands while the pairs are walked: those before at_ are done, of that at at_ the items before x -/
structure BI (R1 R2 : Rws) (s : Nat × Nat) (at_ x : Nat) (qs : Qn) : Prop where
  st : qs[0]? = some (s, [])
  wk : ∀ q ∈ qs, Walk2 R1 R2 s q.2 q.1
  nd : (qs.map (·.1)).Nodup
  so : ∀ (m n : Nat) (a b : (Nat × Nat) × List Nat), m < n → qs[m]? = some a → qs[n]? = some b → slt a.2 b.2
  cl : ∀ (m : Nat) (q : (Nat × Nat) × List Nat) (y : Nat), qs[m]? = some q → (m < at_ ∨ (m = at_ ∧ y < x)) → ∀ i j, (R1.getD q.1.1 [])[y]? = some (.nd i) → (R2.getD q.1.2 [])[y]? = some (.nd j) → ∃ e, ((i, j), e) ∈ qs ∧ sle e (q.2 ++ [y])
  ok : ∀ (m : Nat) (q : (Nat × Nat) × List Nat) (y : Nat), qs[m]? = some q → (m < at_ ∨ (m = at_ ∧ y < x)) → ¬ mis (R1.getD q.1.1 [])[y]? (R2.getD q.1.2 [])[y]?
  lt : ∀ (c : (Nat × Nat) × List Nat), qs[at_]? = some c → ∀ q ∈ qs, slt q.2 (c.2 ++ [x])
  rg : NdOk R1 → NdOk R2 → s.1 < R1.length → s.2 < R2.length → ∀ q ∈ qs, q.1.1 < R1.length ∧ q.1.2 < R2.length
theorem BI.start (R1 R2 : Rws) (s : Nat × Nat) : BI R1 R2 s 0 0 [(s, [])] where
  st := rfl
  wk := fun q h => by rw [List.mem_singleton.mp h]; exact .nil
  nd := List.nodup_cons.mpr ⟨by simp, List.nodup_nil⟩
  so := fun m n a b l _ h => by
    cases n with
    | zero => exact absurd l (Nat.not_lt_zero _)
    | succ n => simp at h
  cl := fun m q y _ h => absurd h (by omega)
  ok := fun m q y _ h => absurd h (by omega)
  lt := fun c h q hq => by
    rw [List.mem_singleton.mp hq]
    cases h
    exact slt_more [] 0
  rg := fun _ _ h1 h2 q hq => by rw [List.mem_singleton.mp hq]; exact ⟨h1, h2⟩
theorem getD_nd {R : Rws} (ok : NdOk R) {i x j : Nat} (h : (R.getD i [])[x]? = some (.nd j)) : j < R.length := by
  by_cases c : i < R.length
  · rw [List.getD_eq_getElem?_getD, List.getElem?_eq_getElem c] at h
    exact ok _ (List.getElem_mem c) j (List.mem_of_getElem? h)
  · have e : R.getD i [] = [] := by rw [List.getD_eq_getElem?_getD, List.getElem?_eq_none (by omega : R.length ≤ i)]; rfl
    rw [e] at h
    cases h
theorem sum_const {α : Type} (k : Nat) : ∀ l : List α, (l.map fun _ => k).sum = l.length * k
  | [] => by simp
  | _ :: l => by rw [List.map_cons, List.sum_cons, sum_const k l, List.length_cons, Nat.add_mul]; omega
/-- one item -/
theorem BI.step {R1 R2 : Rws} {s : Nat × Nat} {at_ x : Nat} {qs qs' : Qn} {c : (Nat × Nat) × List Nat} (I : BI R1 R2 s at_ x qs) (hc : qs[at_]? = some c) (hv : visit (R1.getD c.1.1 [])[x]? (R2.getD c.1.2 [])[x]? c.2 x qs = .inl qs') : BI R1 R2 s at_ (x + 1) qs' ∧ qs'[at_]? = some c := by
  have cm := List.mem_of_getElem? hc
  have old : ∀ {m : Nat} {y : Nat}, (m < at_ ∨ (m = at_ ∧ y < x + 1)) → (m < at_ ∨ (m = at_ ∧ y < x)) ∨ (m = at_ ∧ y = x) := fun h => by omega
  by_cases isn : ∃ i j, (R1.getD c.1.1 [])[x]? = some (.nd i) ∧ (R2.getD c.1.2 [])[x]? = some (.nd j)
  · obtain ⟨i, j, e1, e2⟩ := isn
    rw [e1, e2, visit_nd] at hv
    injection hv with hv
    have nomis : ¬ mis (R1.getD c.1.1 [])[x]? (R2.getD c.1.2 [])[x]? := fun ⟨n, _⟩ => n ⟨i, j, e1, e2⟩
    by_cases m : (i, j) ∈ qs.map (·.1)
    · rw [if_pos m] at hv
      subst hv
      obtain ⟨⟨p, e⟩, pm, pe⟩ := List.mem_map.mp m
      have pe : p = (i, j) := pe
      subst pe
      refine ⟨⟨I.st, I.wk, I.nd, I.so, fun m q y hq h i' j' a b => ?_, fun m q y hq h => ?_, fun c' hc' q hq => ?_, I.rg⟩, hc⟩
      · rcases old h with h | ⟨rfl, rfl⟩
        · exact I.cl m q y hq h i' j' a b
        · rw [hc] at hq
          cases hq
          rw [e1] at a
          rw [e2] at b
          cases a
          cases b
          exact ⟨e, pm, .inl (I.lt c hc _ pm)⟩
      · rcases old h with h | ⟨rfl, rfl⟩
        · exact I.ok m q y hq h
        · rw [hc] at hq
          cases hq
          exact nomis
      · rw [hc] at hc'
        cases hc'
        exact slt_trans (I.lt c hc q hq) (slt_last _ (Nat.lt_succ_self x))
    · rw [if_neg m] at hv
      subst hv
      have get : ∀ {k : Nat} {q : (Nat × Nat) × List Nat}, qs[k]? = some q → (qs ++ [((i, j), c.2 ++ [x])])[k]? = some q := fun {k q} h => by
        rw [List.getElem?_append_left (List.getElem?_eq_some_iff.mp h).1]; exact h
      have back : ∀ {k : Nat} {q : (Nat × Nat) × List Nat}, (qs ++ [((i, j), c.2 ++ [x])])[k]? = some q → qs[k]? = some q ∨ (k = qs.length ∧ q = ((i, j), c.2 ++ [x])) := fun {k q} h => by
        by_cases l : k < qs.length
        · rw [List.getElem?_append_left l] at h; exact .inl h
        · rw [List.getElem?_append_right (by omega)] at h
          have z : k - qs.length = 0 := by
            have := (List.getElem?_eq_some_iff.mp h).1
            simp at this
            omega
          rw [z] at h
          cases h
          exact .inr ⟨by omega, rfl⟩
      have atl : at_ < qs.length := (List.getElem?_eq_some_iff.mp hc).1
      refine ⟨⟨get I.st, fun q hq => ?_, ?_, fun m n a b l ha hb => ?_, fun m q y hq h i' j' a b => ?_, fun m q y hq h => ?_, fun c' hc' q hq => ?_, fun o1 o2 l1 l2 q hq => ?_⟩, get hc⟩
      · rcases List.mem_append.mp hq with h | h
        · exact I.wk q h
        · rw [List.mem_singleton.mp h]
          exact .snoc (I.wk c cm) e1 e2
      · rw [List.map_append, List.nodup_append]
        exact ⟨I.nd, List.nodup_cons.mpr ⟨by simp, List.nodup_nil⟩, fun a ha b hb e => m (by
          have hb : b = (i, j) := List.mem_singleton.mp hb
          rw [← hb, ← e]; exact ha)⟩
      · rcases back hb with hb | ⟨rfl, rfl⟩
        · rcases back ha with ha | ⟨rfl, rfl⟩
          · exact I.so m n a b l ha hb
          · have := (List.getElem?_eq_some_iff.mp hb).1
            omega
        · rcases back ha with ha | ⟨rfl, rfl⟩
          · exact I.lt c hc a (List.mem_of_getElem? ha)
          · omega
      · have hq' : qs[m]? = some q := by
          rcases back hq with hq | ⟨rfl, rfl⟩
          · exact hq
          · omega
        rcases old h with h | ⟨rfl, rfl⟩
        · obtain ⟨e, em, le⟩ := I.cl m q y hq' h i' j' a b
          exact ⟨e, List.mem_append_left _ em, le⟩
        · rw [hc] at hq'
          cases hq'
          rw [e1] at a
          rw [e2] at b
          cases a
          cases b
          exact ⟨c.2 ++ [y], List.mem_append_right _ (List.mem_singleton.mpr rfl), .inr rfl⟩
      · have hq' : qs[m]? = some q := by
          rcases back hq with hq | ⟨rfl, rfl⟩
          · exact hq
          · omega
        rcases old h with h | ⟨rfl, rfl⟩
        · exact I.ok m q y hq' h
        · rw [hc] at hq'
          cases hq'
          exact nomis
      · rw [get hc] at hc'
        cases hc'
        rcases List.mem_append.mp hq with h | h
        · exact slt_trans (I.lt c hc q h) (slt_last _ (Nat.lt_succ_self x))
        · rw [List.mem_singleton.mp h]
          exact slt_last _ (Nat.lt_succ_self x)
      · rcases List.mem_append.mp hq with h | h
        · exact I.rg o1 o2 l1 l2 q h
        · rw [List.mem_singleton.mp h]
          exact ⟨getD_nd o1 e1, getD_nd o2 e2⟩
  · rw [visit_no isn] at hv
    by_cases e : (R1.getD c.1.1 [])[x]? = (R2.getD c.1.2 [])[x]?
    · rw [if_pos e] at hv
      cases hv
      refine ⟨⟨I.st, I.wk, I.nd, I.so, fun m q y hq h i' j' a b => ?_, fun m q y hq h => ?_, fun c' hc' q hq => ?_, I.rg⟩, hc⟩
      · rcases old h with h | ⟨rfl, rfl⟩
        · exact I.cl m q y hq h i' j' a b
        · rw [hc] at hq
          cases hq
          exact absurd ⟨i', j', a, b⟩ isn
      · rcases old h with h | ⟨rfl, rfl⟩
        · exact I.ok m q y hq h
        · rw [hc] at hq
          cases hq
          exact fun ⟨_, ne⟩ => ne e
      · rw [hc] at hc'
        cases hc'
        exact slt_trans (I.lt c hc q hq) (slt_last _ (Nat.lt_succ_self x))
    · rw [if_neg e] at hv; cases hv
/-- an item that differs: no path before it differs -/
theorem BI.first {R1 R2 : Rws} {s : Nat × Nat} {at_ x : Nat} {qs : Qn} {c : (Nat × Nat) × List Nat} (I : BI R1 R2 s at_ x qs) (hc : qs[at_]? = some c) (m : mis (R1.getD c.1.1 [])[x]? (R2.getD c.1.2 [])[x]?) : Fst R1 R2 s (c.2 ++ [x]) := by
  have cm := List.mem_of_getElem? hc
  refine ⟨⟨c.2, x, c.1, rfl, I.wk c cm, m⟩, fun y d l => ?_⟩
  obtain ⟨z, y0, p, rfl, w, my⟩ := d
  -- every prefix has its entry, as long as it lies before
  have key : ∀ {z : List Nat} {p : Nat × Nat}, Walk2 R1 R2 s z p → slt z (c.2 ++ [x]) → (∃ e, (p, e) ∈ qs ∧ sle e z) := by
    intro z p w
    induction w with
    | nil => exact fun _ => ⟨[], List.mem_of_getElem? I.st, .inr rfl⟩
    | @snoc z p q y w a b ih =>
      intro l
      have lz : slt z (c.2 ++ [x]) := slt_trans (slt_more z y) l
      obtain ⟨e, em, le⟩ := ih lz
      obtain ⟨k, hk⟩ := List.mem_iff_getElem?.mp em
      have done : k < at_ ∨ (k = at_ ∧ y < x) := by
        rcases Nat.lt_trichotomy k at_ with h | h | h
        · exact .inl h
        · refine .inr ⟨h, ?_⟩
          subst h
          rw [hc] at hk
          cases hk
          -- z ≥ c.2, z ++ [y] < c.2 ++ [x]
          rcases Nat.lt_or_ge y x with g | g
          · exact g
          · exfalso
            rcases le with le | rfl
            · exact slt_irr _ (slt_trans l (slt_snoc x y le))
            · rcases Nat.lt_or_eq_of_le g with g | rfl
              · exact slt_irr _ (slt_trans l (slt_last _ g))
              · exact slt_irr _ l
        · exfalso
          have := I.so at_ k c _ h hc hk
          exact slt_irr _ (slt_trans l (slt_snoc x y (slt_sle this le)))
      obtain ⟨e2, em2, le2⟩ := I.cl k (p, e) y hk done q.1 q.2 a b
      exact ⟨e2, em2, sle_trans le2 (sle_snoc y le)⟩
  have lz : slt z (c.2 ++ [x]) := slt_trans (slt_more z y0) l
  obtain ⟨e, em, le⟩ := key w lz
  obtain ⟨k, hk⟩ := List.mem_iff_getElem?.mp em
  rcases Nat.lt_trichotomy k at_ with h | h | h
  · exact I.ok k (p, e) y0 hk (.inl h) my
  · subst h
    rw [hc] at hk
    cases hk
    rcases Nat.lt_or_ge y0 x with g | g
    · exact I.ok _ _ y0 hc (.inr ⟨rfl, g⟩) my
    · rcases le with le | rfl
      · exact slt_irr _ (slt_trans l (slt_snoc x y0 le))
      · rcases Nat.lt_or_eq_of_le g with g | rfl
        · exact slt_irr _ (slt_trans l (slt_last _ g))
        · exact slt_irr _ l
  · have := I.so at_ k c _ h hc hk
    exact slt_irr _ (slt_trans l (slt_snoc x y0 (slt_sle this le)))
theorem visit_err {a b : Option Itm} {p : List Nat} {x : Nat} {qs : Qn} {e : List Nat} (h : visit a b p x qs = .inr e) : mis a b ∧ e = p ++ [x] := by
  by_cases isn : ∃ i j, a = some (.nd i) ∧ b = some (.nd j)
  · obtain ⟨i, j, rfl, rfl⟩ := isn
    rw [visit_nd] at h; cases h
  · rw [visit_no isn] at h
    by_cases c : a = b
    · rw [if_pos c] at h; cases h
    · rw [if_neg c] at h
      cases h
      exact ⟨⟨isn, c⟩, rfl⟩
theorem BI.scan {R1 R2 : Rws} {s : Nat × Nat} {at_ : Nat} {c : (Nat × Nat) × List Nat} : ∀ (n : Nat) {x : Nat} {qs : Qn}, BI R1 R2 s at_ x qs → qs[at_]? = some c →
    (∀ qs', scan (R1.getD c.1.1 []) (R2.getD c.1.2 []) c.2 n x qs = .inl qs' → BI R1 R2 s at_ (x + n) qs' ∧ qs'[at_]? = some c) ∧
    (∀ e, scan (R1.getD c.1.1 []) (R2.getD c.1.2 []) c.2 n x qs = .inr e → Fst R1 R2 s e)
  | 0, x, qs, I, hc => ⟨fun qs' h => by cases h; exact ⟨I, hc⟩, fun e h => nomatch h⟩
  | n + 1, x, qs, I, hc => by
    rw [scan_succ]
    cases hv : visit (R1.getD c.1.1 [])[x]? (R2.getD c.1.2 [])[x]? c.2 x qs with
    | inl qs1 =>
      obtain ⟨I1, hc1⟩ := I.step hc hv
      have r := BI.scan n I1 hc1
      rw [show x + 1 + n = x + (n + 1) by omega] at r
      exact r
    | inr e =>
      obtain ⟨m, rfl⟩ := visit_err hv
      refine ⟨fun qs' h => (nomatch h), fun e h => ?_⟩
      injection h with h
      rw [← h]
      exact I.first hc m
/-- a whole pair is done -/
theorem BI.next {R1 R2 : Rws} {s : Nat × Nat} {at_ : Nat} {qs : Qn} {c : (Nat × Nat) × List Nat} (I : BI R1 R2 s at_ (max (R1.getD c.1.1 []).length (R2.getD c.1.2 []).length) qs) (hc : qs[at_]? = some c) : BI R1 R2 s (at_ + 1) 0 qs := by
  have big : ∀ y, (max (R1.getD c.1.1 []).length (R2.getD c.1.2 []).length) ≤ y → (R1.getD c.1.1 [])[y]? = none ∧ (R2.getD c.1.2 [])[y]? = none := fun y h => ⟨List.getElem?_eq_none (by omega), List.getElem?_eq_none (by omega)⟩
  refine ⟨I.st, I.wk, I.nd, I.so, fun m q y hq h i j a b => ?_, fun m q y hq h => ?_, fun d hd q hq => ?_, I.rg⟩
  · by_cases e : m < at_
    · exact I.cl m q y hq (.inl e) i j a b
    · have e : m = at_ := by omega
      subst e
      rw [hc] at hq
      cases hq
      by_cases g : y < max (R1.getD c.1.1 []).length (R2.getD c.1.2 []).length
      · exact I.cl m c y hc (.inr ⟨rfl, g⟩) i j a b
      · rw [(big y (by omega)).1] at a; cases a
  · by_cases e : m < at_
    · exact I.ok m q y hq (.inl e)
    · have e : m = at_ := by omega
      subst e
      rw [hc] at hq
      cases hq
      by_cases g : y < max (R1.getD c.1.1 []).length (R2.getD c.1.2 []).length
      · exact I.ok m c y hc (.inr ⟨rfl, g⟩)
      · rw [(big y (by omega)).1, (big y (by omega)).2]
        exact fun ⟨_, ne⟩ => ne rfl
  · -- the paths found so far lie before d.2 ++ [0]
    have h1 := I.so at_ (at_ + 1) c d (Nat.lt_succ_self _) hc hd
    obtain ⟨k, hk⟩ := List.mem_iff_getElem?.mp hq
    by_cases g : k ≤ at_ + 1
    · rcases Nat.lt_or_eq_of_le g with g | rfl
      · exact slt_trans (I.so k (at_ + 1) q d g hk hd) (slt_more _ _)
      · rw [hd] at hk
        cases hk
        exact slt_more _ _
    · exact slt_trans (I.lt c hc q hq) (slt_snoc _ _ h1)
theorem bfs_succ (R1 R2 : Rws) (n at_ : Nat) (qs : Qn) : bfs R1 R2 (n + 1) at_ qs = match qs[at_]? with
    | none => none
    | some (p, z) => match scan (R1.getD p.1 []) (R2.getD p.2 []) z (max (R1.getD p.1 []).length (R2.getD p.2 []).length) 0 qs with
      | .inl qs' => bfs R1 R2 n (at_ + 1) qs'
      | .inr e => some e := rfl
/-- all pairs are done -/
theorem BI.bis {R1 R2 : Rws} {s : Nat × Nat} {at_ : Nat} {qs : Qn} (I : BI R1 R2 s at_ 0 qs) (h : qs.length ≤ at_) : Bis R1 R2 s.1 s.2 := by
  refine ⟨fun i j => ∃ e, ((i, j), e) ∈ qs, fun i j ⟨e, em⟩ x => ?_, [], List.mem_of_getElem? I.st⟩
  obtain ⟨k, hk⟩ := List.mem_iff_getElem?.mp em
  have kl := (List.getElem?_eq_some_iff.mp hk).1
  by_cases isn : ∃ a b, (R1.getD i [])[x]? = some (.nd a) ∧ (R2.getD j [])[x]? = some (.nd b)
  · obtain ⟨a, b, e1, e2⟩ := isn
    obtain ⟨e', em', _⟩ := I.cl k _ x hk (.inl (by omega)) a b e1 e2
    exact .inl ⟨a, b, e1, e2, e', em'⟩
  · refine .inr ⟨isn, ?_⟩
    apply Classical.byContradiction
    intro ne
    exact I.ok k _ x hk (.inl (by omega)) ⟨isn, ne⟩
theorem bfs_spec {R1 R2 : Rws} {s : Nat × Nat} (o1 : NdOk R1) (o2 : NdOk R2) (l1 : s.1 < R1.length) (l2 : s.2 < R2.length) : ∀ (n : Nat) {at_ : Nat} {qs : Qn}, BI R1 R2 s at_ 0 qs → at_ ≤ qs.length → R1.length * R2.length < n + at_ →
    (bfs R1 R2 n at_ qs = none → Bis R1 R2 s.1 s.2) ∧ ∀ e, bfs R1 R2 n at_ qs = some e → Fst R1 R2 s e
  | 0, at_, qs, I, la, f => by
    exfalso
    have q := nodup_le (m := (List.range R1.length).flatMap (fun i => (List.range R2.length).map fun j => (i, j))) I.nd fun p hp => by
      obtain ⟨q, hq, rfl⟩ := List.mem_map.mp hp
      obtain ⟨a, b⟩ := I.rg o1 o2 l1 l2 q hq
      exact List.mem_flatMap.mpr ⟨q.1.1, List.mem_range.mpr a, List.mem_map.mpr ⟨q.1.2, List.mem_range.mpr b, rfl⟩⟩
    have len : ((List.range R1.length).flatMap (fun i => (List.range R2.length).map fun j => (i, j))).length = R1.length * R2.length := by
      rw [List.length_flatMap]
      have e : (List.map (fun i => ((List.range R2.length).map fun j => (i, j)).length) (List.range R1.length)) = (List.range R1.length).map fun _ => R2.length := List.map_congr_left fun i _ => by rw [List.length_map, List.length_range]
      rw [e, sum_const, List.length_range]
    rw [List.length_map, len] at q
    omega
  | n + 1, at_, qs, I, la, f => by
    rw [bfs_succ]
    cases hc : qs[at_]? with
    | none =>
      refine ⟨fun _ => I.bis (List.getElem?_eq_none_iff.mp hc), fun e h => nomatch h⟩
    | some c =>
      obtain ⟨p, z⟩ := c
      obtain ⟨sc1, sc2⟩ := BI.scan (max (R1.getD p.1 []).length (R2.getD p.2 []).length) I hc
      simp only
      cases hs : Mf.scan (R1.getD p.1 []) (R2.getD p.2 []) z (max (R1.getD p.1 []).length (R2.getD p.2 []).length) 0 qs with
      | inl qs' =>
        obtain ⟨I', hc'⟩ := sc1 qs' hs
        rw [Nat.zero_add] at I'
        have l' := (List.getElem?_eq_some_iff.mp hc').1
        exact bfs_spec o1 o2 l1 l2 n (I'.next hc') (by omega) (by omega)
      | inr e =>
        refine ⟨(fun h => nomatch h), fun e' h => ?_⟩
        injection h with h
        rw [← h]
        exact sc2 e hs
theorem mul_lt {a b : Nat} (h1 : a ≤ 40) (h2 : b ≤ 40) : a * b < 2000 := Nat.lt_of_le_of_lt (Nat.mul_le_mul h1 h2) (by decide)
theorem dif_none {R1 R2 : Rws} {i j : Nat} (o1 : NdOk R1) (o2 : NdOk R2) (f1 : R1.length ≤ 40) (f2 : R2.length ≤ 40) (l1 : i < R1.length) (l2 : j < R2.length) : difP R1 R2 i j = none ↔ Bis R1 R2 i j := by
  have q := bfs_spec (s := (i, j)) o1 o2 l1 l2 2000 (BI.start R1 R2 (i, j)) (Nat.zero_le _) (mul_lt f1 f2)
  refine ⟨q.1, fun h => ?_⟩
  cases e : difP R1 R2 i j with
  | none => rfl
  | some z => exact absurd (q.2 z e).1 (bis_no (s := (i, j)) h z)
theorem dif_some {R1 R2 : Rws} {i j : Nat} (o1 : NdOk R1) (o2 : NdOk R2) (f1 : R1.length ≤ 40) (f2 : R2.length ≤ 40) (l1 : i < R1.length) (l2 : j < R2.length) {z : List Nat} : difP R1 R2 i j = some z ↔ Fst R1 R2 (i, j) z := by
  have q := bfs_spec (s := (i, j)) o1 o2 l1 l2 2000 (BI.start R1 R2 (i, j)) (Nat.zero_le _) (mul_lt f1 f2)
  refine ⟨q.2 z, fun h => ?_⟩
  cases e : difP R1 R2 i j with
  | none => exact absurd h.1 (bis_no (s := (i, j)) (q.1 e) z)
  | some y => rw [(q.2 y e).uniq h]
theorem dif_swap {R1 R2 : Rws} {i j : Nat} (o1 : NdOk R1) (o2 : NdOk R2) (f1 : R1.length ≤ 40) (f2 : R2.length ≤ 40) (l1 : i < R1.length) (l2 : j < R2.length) : difP R2 R1 j i = difP R1 R2 i j := by
  cases e : difP R1 R2 i j with
  | none => exact (dif_none o2 o1 f2 f1 l2 l1).mpr ((dif_none o1 o2 f1 f2 l1 l2).mp e).symm
  | some z => exact (dif_some o2 o1 f2 f1 l2 l1).mpr ((dif_some o1 o2 f1 f2 l1 l2).mp e).swap
end Mf
/-! the rows of a result: one for each result that occurs in it, numbered as they occur -/
namespace Mf
open PySem L2
/-! ### classes and equal results -/
theorem pt_at (c : List Nat) (row : List Itm) (x : Nat) : (ptRow c row)[x]? = row[x]?.map (ptI fun i => c.getD i 0) := by unfold ptRow; rw [List.getElem?_map]
theorem pt_nd {f : Nat → Nat} {it : Itm} {k : Nat} (h : ptI f it = .nd k) : ∃ i, it = .nd i ∧ f i = k := by
  cases it with
  | nd i => injection h with h; exact ⟨i, rfl, h⟩
  | num n => cases h
  | wd n => cases h
  | gap => cases h
theorem pt_no {f : Nat → Nat} {it : Itm} (h : ¬ ∃ i, it = .nd i) : ptI f it = it := by
  cases it with
  | nd i => exact absurd ⟨i, rfl⟩ h
  | _ => rfl
/-- the rows point alike, if their items agree and their nodes are of the same class -/
theorem pt_rel {c : List Nat} {B : Nat → Nat → Prop} {r1 r2 : List Itm} (h : RowRel B r1 r2) (k : ∀ (x i j : Nat), r1[x]? = some (Itm.nd i) → r2[x]? = some (Itm.nd j) → B i j → cl c i = cl c j) : ptRow c r1 = ptRow c r2 := by
  apply List.ext_getElem?
  intro x
  rw [pt_at, pt_at]
  rcases h x with ⟨i, j, e1, e2, b⟩ | ⟨_, e⟩
  · rw [e1, e2]
    show some (Itm.nd (cl c i)) = some (Itm.nd (cl c j))
    rw [k x i j e1 e2 b]
  · rw [e]
theorem rel_pt {c : List Nat} {r1 r2 : List Itm} (h : ptRow c r1 = ptRow c r2) : RowRel (fun i j => cl c i = cl c j) r1 r2 := fun x => by
  have e : (ptRow c r1)[x]? = (ptRow c r2)[x]? := by rw [h]
  rw [pt_at, pt_at] at e
  by_cases n1 : ∃ i, r1[x]? = some (.nd i)
  · obtain ⟨i, e1⟩ := n1
    rw [e1] at e
    cases e2 : r2[x]? with
    | none => rw [e2] at e; cases e
    | some it =>
      rw [e2] at e
      have e : some (Itm.nd (cl c i)) = some (ptI (fun i => c.getD i 0) it) := e
      injection e with e
      obtain ⟨j, rfl, ej⟩ := pt_nd e.symm
      exact .inl ⟨i, j, e1, rfl, ej.symm⟩
  · refine .inr ⟨fun ⟨i, j, a, _⟩ => n1 ⟨i, a⟩, ?_⟩
    cases e1 : r1[x]? with
    | none =>
      rw [e1] at e
      cases e2 : r2[x]? with
      | none => rfl
      | some it => rw [e2] at e; cases e
    | some a =>
      rw [e1] at e
      cases e2 : r2[x]? with
      | none => rw [e2] at e; cases e
      | some b =>
        rw [e2] at e
        have e : some (ptI (fun i => c.getD i 0) a) = some (ptI (fun i => c.getD i 0) b) := e
        injection e with e
        rw [pt_no (fun ⟨i, h⟩ => n1 ⟨i, by rw [e1, h]⟩)] at e
        by_cases n2 : ∃ i, b = .nd i
        · obtain ⟨j, rfl⟩ := n2
          exact absurd ⟨cl c j, by rw [e1, e]; rfl⟩ n1
        · rw [pt_no n2] at e; rw [e]
theorem cl_get {c : List Nat} {n i j : Nat} (l : c.length = n) (hi : i < n) (hj : j < n) : cl c i = cl c j ↔ c[i]? = c[j]? := getD_eq l hi hj
theorem row_get {R : Rws} {i : Nat} (h : i < R.length) : R[i]? = some (R.getD i []) := by rw [List.getD_eq_getElem?_getD, List.getElem?_eq_getElem h]; rfl
/-- equal results are of one class, in every round -/
theorem bis_cls {R : Rws} (ok : NdOk R) : ∀ (k : Nat) {i j : Nat}, i < R.length → j < R.length → Bis R R i j → cl (clsN R k) i = cl (clsN R k) j
  | 0, i, j, hi, hj, _ => by
    refine (cl_get (clsN_len R 0) hi hj).mpr ?_
    show (List.replicate R.length 0)[i]? = (List.replicate R.length 0)[j]?
    rw [List.getElem?_replicate, List.getElem?_replicate, if_pos hi, if_pos hj]
  | k + 1, i, j, hi, hj, b => by
    refine (cl_get (clsN_len R (k + 1)) hi hj).mpr ?_
    show (fin R (clsN R k))[i]? = (fin R (clsN R k))[j]?
    refine (fin_eq (row_get hi) (row_get hj)).mpr (pt_rel b.row fun x a b' e1 e2 q => ?_)
    exact bis_cls ok k (getD_nd ok e1) (getD_nd ok e2) q
theorem clsE_fix {R : Rws} (ok : NdOk R) : fin R (clsE R) = clsE R := cls_end ok
theorem cls_bis {R : Rws} (ok : NdOk R) {i j : Nat} (hi : i < R.length) (hj : j < R.length) (h : cl (clsE R) i = cl (clsE R) j) : Bis R R i j := by
  refine ⟨fun i j => i < R.length ∧ j < R.length ∧ cl (clsE R) i = cl (clsE R) j, fun i j ⟨hi, hj, h⟩ => ?_, hi, hj, h⟩
  have e := (cl_get (clsN_len R _) hi hj).mp h
  have e : (clsE R)[i]? = (clsE R)[j]? := e
  rw [← clsE_fix ok] at e
  have q := rel_pt ((fin_eq (row_get hi) (row_get hj)).mp e)
  intro x
  rcases q x with ⟨a, b, e1, e2, c⟩ | r
  · exact .inl ⟨a, b, e1, e2, getD_nd ok e1, getD_nd ok e2, c⟩
  · exact .inr r
theorem cls_iff {R : Rws} (ok : NdOk R) {i j : Nat} (hi : i < R.length) (hj : j < R.length) : cl (clsE R) i = cl (clsE R) j ↔ Bis R R i j := ⟨cls_bis ok hi hj, bis_cls ok R.length hi hj⟩
/-! ### what is found -/
theorem vis_pre (c : List Nat) : ∀ (is fd : List Nat), ∃ e, visN c fd is = fd ++ e
  | [], fd => ⟨[], (List.append_nil _).symm⟩
  | i :: is, fd => by
    obtain ⟨e1, h1⟩ := put_pre c fd i
    obtain ⟨e2, h2⟩ := vis_pre c is (if cl c i ∈ fd.map (cl c) then fd else fd ++ [i])
    exact ⟨e1 ++ e2, by show visN c _ is = _; rw [h2, h1, List.append_assoc]⟩
theorem vis_ok {n : Nat} {c : List Nat} : ∀ {is fd : List Nat}, FdOk n c fd → (∀ i ∈ is, i < n) → FdOk n c (visN c fd is)
  | [], _, h, _ => h
  | x :: is, fd, h, l => by
    show FdOk n c (visN c (if cl c x ∈ fd.map (cl c) then fd else fd ++ [x]) is)
    exact vis_ok (h.put (l _ List.mem_cons_self)) fun i hi => l i (List.mem_cons_of_mem _ hi)
theorem vis_mem {c : List Nat} : ∀ {is fd : List Nat} {j : Nat}, (j ∈ is ∨ cl c j ∈ fd.map (cl c)) → cl c j ∈ (visN c fd is).map (cl c)
  | [], _, _, h => h.elim (fun h => nomatch h) id
  | x :: is, fd, j, h => by
    show cl c j ∈ (visN c (if cl c x ∈ fd.map (cl c) then fd else fd ++ [x]) is).map (cl c)
    refine vis_mem ?_
    rcases h with h | h
    · rcases List.mem_cons.mp h with rfl | h
      · exact .inr (put_mem c fd j)
      · exact .inl h
    · obtain ⟨e, he⟩ := put_pre c fd x
      rw [he, List.map_append]
      exact .inr (List.mem_append_left _ h)
theorem getD_nds {R : Rws} (ok : NdOk R) {i j : Nat} (h : j ∈ nds (R.getD i [])) : j < R.length := by
  obtain ⟨x, hx⟩ := List.mem_iff_getElem?.mp (nds_mem.mp h)
  exact getD_nd ok hx
/-- what stands while it is found: rows before at_ are done -/
structure GI (R : Rws) (c : List Nat) (at_ : Nat) (fd : List Nat) : Prop where
  ok : FdOk R.length c fd
  cl : ∀ (p i : Nat), p < at_ → fd[p]? = some i → ∀ j ∈ nds (R.getD i []), cl c j ∈ fd.map (cl c)
theorem GI.next {R : Rws} (nk : NdOk R) {c : List Nat} {at_ : Nat} {fd : List Nat} (G : GI R c at_ fd) {i : Nat} (h : fd[at_]? = some i) : GI R c (at_ + 1) (visN c fd (nds (R.getD i []))) := by
  obtain ⟨e, he⟩ := vis_pre c (nds (R.getD i [])) fd
  refine ⟨vis_ok G.ok fun j hj => getD_nds nk hj, fun p k hp hk j hj => ?_⟩
  have al := (List.getElem?_eq_some_iff.mp h).1
  rw [he, List.getElem?_append_left (by omega)] at hk
  by_cases q : p < at_
  · exact vis_mem (.inr (G.cl p k q hk j hj))
  · have q : p = at_ := by omega
    subst q
    rw [h] at hk
    cases hk
    exact vis_mem (.inl hj)
/-- enough turns: all is done -/
theorem grow_done {R : Rws} (nk : NdOk R) {c : List Nat} : ∀ (n : Nat) {at_ : Nat} {fd : List Nat}, GI R c at_ fd → at_ ≤ fd.length → R.length < n + at_ → ∃ a2, GI R c a2 (growN R c n at_ fd) ∧ (growN R c n at_ fd).length ≤ a2
  | 0, at_, fd, G, la, f => by
    exfalso
    have := G.ok.few
    omega
  | n + 1, at_, fd, G, la, f => by
    rw [growN_succ]
    cases h : fd[at_]? with
    | none => exact ⟨at_, G, List.getElem?_eq_none_iff.mp h⟩
    | some i =>
      have al := (List.getElem?_eq_some_iff.mp h).1
      obtain ⟨e, he⟩ := vis_pre c (nds (R.getD i [])) fd
      refine grow_done nk n (G.next nk h) ?_ (by omega)
      rw [he, List.length_append]; omega
theorem grow_pre (R : Rws) (c : List Nat) : ∀ (n at_ : Nat) (fd : List Nat), ∃ e, growN R c n at_ fd = fd ++ e
  | 0, _, fd => ⟨[], (List.append_nil _).symm⟩
  | n + 1, at_, fd => by
    rw [growN_succ]
    cases fd[at_]? with
    | none => exact ⟨[], (List.append_nil _).symm⟩
    | some i =>
      obtain ⟨e1, h1⟩ := vis_pre c (nds (R.getD i [])) fd
      obtain ⟨e2, h2⟩ := grow_pre R c n (at_ + 1) (visN c fd (nds (R.getD i [])))
      exact ⟨e1 ++ e2, by
        show growN R c n (at_ + 1) _ = _
        rw [h2, h1, List.append_assoc]⟩
theorem gi_start {R : Rws} {c : List Nat} {st : Nat} (h : st < R.length) : GI R c 0 [st] := ⟨⟨List.nodup_cons.mpr ⟨by simp, List.nodup_nil⟩, fun i hi => by rw [List.mem_singleton.mp hi]; exact h⟩, fun p i hp => absurd hp (Nat.not_lt_zero _)⟩
theorem found_all {R : Rws} (nk : NdOk R) {c : List Nat} {st : Nat} (h : st < R.length) : FdOk R.length c (foundN R c st) ∧ ∀ i ∈ foundN R c st, ∀ j ∈ nds (R.getD i []), cl c j ∈ (foundN R c st).map (cl c) := by
  obtain ⟨a2, G, l⟩ := grow_done nk (R.length + 1) (gi_start (c := c) h) (Nat.zero_le _) (by omega)
  refine ⟨G.ok, fun i hi j hj => ?_⟩
  obtain ⟨p, hp⟩ := List.mem_iff_getElem?.mp hi
  have := (List.getElem?_eq_some_iff.mp hp).1
  exact G.cl p i (Nat.lt_of_lt_of_le this l) hp j hj
theorem found_zero (R : Rws) (c : List Nat) (st : Nat) : (foundN R c st)[0]? = some st := by
  obtain ⟨e, he⟩ := grow_pre R c (R.length + 1) 0 [st]
  show (growN R c (R.length + 1) 0 [st])[0]? = _
  rw [he]; rfl
/-! ### the rows told are those of equal results -/
theorem canon_row {R : Rws} {st p i : Nat} (h : (foundN R (clsE R) st)[p]? = some i) : (canonN R st).getD p [] = numRow (clsE R) (foundN R (clsE R) st) (R.getD i []) := by
  unfold canonN
  rw [List.getD_eq_getElem?_getD, List.getElem?_map, h]; rfl
theorem bis_canon {R : Rws} (nk : NdOk R) {st : Nat} (h : st < R.length) {p i : Nat} (hp : (foundN R (clsE R) st)[p]? = some i) : Bis R (canonN R st) i p := by
  obtain ⟨fo, clos⟩ := found_all nk (c := clsE R) h
  refine ⟨fun i p => ∃ k, (foundN R (clsE R) st)[p]? = some k ∧ i < R.length ∧ cl (clsE R) i = cl (clsE R) k, fun i p ⟨k, hk, hi, e⟩ x => ?_, i, hp, fo.lt i (List.mem_of_getElem? hp), rfl⟩
  have km := List.mem_of_getElem? hk
  have kl := fo.lt k km
  rw [canon_row hk]
  have q := (cls_bis nk hi kl e).row x
  have nr : (numRow (clsE R) (foundN R (clsE R) st) (R.getD k []))[x]? = (R.getD k [])[x]?.map (ptI fun j => ixG (cl (clsE R) j) ((foundN R (clsE R) st).map (cl (clsE R)))) := by unfold numRow; rw [List.getElem?_map]
  rcases q with ⟨a, b, e1, e2, bb⟩ | ⟨n, e⟩
  · have bm := clos k km b (nds_mem.mpr (List.mem_of_getElem? e2))
    refine .inl ⟨a, ixG (cl (clsE R) b) ((foundN R (clsE R) st).map (cl (clsE R))), e1, by rw [nr, e2]; rfl, ?_⟩
    have g := ixG_at bm
    rw [List.getElem?_map] at g
    obtain ⟨k2, h2, h3⟩ := Option.map_eq_some_iff.mp g
    exact ⟨k2, h2, getD_nd nk e1, ((cls_iff nk (getD_nd nk e1) (getD_nd nk e2)).mpr bb).trans h3.symm⟩
  · rw [nr]
    have n1 : ¬ ∃ i, (R.getD k [])[x]? = some (.nd i) := fun ⟨j, hj⟩ => n ⟨j, j, e.trans hj, hj⟩
    refine .inr ⟨fun ⟨a, b, e1, e2⟩ => n1 ⟨a, e ▸ e1⟩, ?_⟩
    rw [e]
    cases hx : (R.getD k [])[x]? with
    | none => rfl
    | some it =>
      rw [Option.map_some, pt_no (fun ⟨j, hj⟩ => n1 ⟨j, by rw [hx, hj]⟩)]
theorem bis_canon0 {R : Rws} (nk : NdOk R) {st : Nat} (h : st < R.length) : Bis R (canonN R st) st 0 := bis_canon nk h (found_zero R _ st)
theorem canon_nd {R : Rws} (nk : NdOk R) {st : Nat} (h : st < R.length) : NdOk (canonN R st) := fun r hr j hj => by
  obtain ⟨fo, clos⟩ := found_all nk (c := clsE R) h
  obtain ⟨i, im, rfl⟩ := List.mem_map.mp hr
  obtain ⟨it, h1, h2⟩ := List.mem_map.mp hj
  obtain ⟨b, rfl, h3⟩ := pt_nd h2
  rw [← h3]
  have bm := clos i im b (nds_mem.mpr h1)
  show _ < (List.map _ (foundN R (clsE R) st)).length
  rw [List.length_map]
  have := ixG_lt bm
  rw [List.length_map] at this
  exact this
theorem canon_le {R : Rws} (nk : NdOk R) {st : Nat} (h : st < R.length) : (canonN R st).length ≤ R.length := by
  unfold canonN
  rw [List.length_map]
  exact (found_all nk h).1.few
theorem canon_pos {R : Rws} {st : Nat} : 0 < (canonN R st).length := by
  unfold canonN
  rw [List.length_map]
  exact (List.getElem?_eq_some_iff.mp (found_zero R (clsE R) st)).1
/-! ### equal results have the same rows -/
/-- two lists, item by item -/
theorem nds_rel {B : Nat → Nat → Prop} : ∀ {r1 r2 : List Itm}, RowRel B r1 r2 → Paired B (nds r1) (nds r2)
  | [], [], _ => .nil
  | [], b :: r2, h => by
    rcases h 0 with ⟨i, j, e1, _⟩ | ⟨_, e⟩
    · cases e1
    · cases e
  | a :: r1, [], h => by
    rcases h 0 with ⟨i, j, _, e1, _⟩ | ⟨_, e⟩
    · cases e1
    · cases e
  | a :: r1, b :: r2, h => by
    have tl : RowRel B r1 r2 := fun x => h (x + 1)
    have ih := nds_rel tl
    rcases h 0 with ⟨i, j, e1, e2, c⟩ | ⟨n, e⟩
    · injection e1 with e1
      injection e2 with e2
      subst e1 e2
      exact .cons c ih
    · injection e with e
      subst e
      have no : ¬ ∃ i, a = .nd i := fun ⟨i, hi⟩ => n ⟨i, i, by rw [hi]; rfl, by rw [hi]; rfl⟩
      have skip : ∀ r, nds (a :: r) = nds r := fun r => by
        unfold nds
        cases a with
        | nd i => exact absurd ⟨i, rfl⟩ no
        | _ => rfl
      rw [skip, skip]
      exact ih
structure Lock (R1 R2 : Rws) (f1 f2 : List Nat) : Prop where
  len : f1.length = f2.length
  at_ : ∀ (p i j : Nat), f1[p]? = some i → f2[p]? = some j → Bis R1 R2 i j
/-- of one class with a found one: at the same place on both sides -/
theorem Lock.mem {R1 R2 : Rws} (k1 : NdOk R1) (k2 : NdOk R2) {f1 f2 : List Nat} (L : Lock R1 R2 f1 f2) (o1 : FdOk R1.length (clsE R1) f1) (o2 : FdOk R2.length (clsE R2) f2) {i j p : Nat} (hi : i < R1.length) (hj : j < R2.length) (b : Bis R1 R2 i j) :
    (f1.map (cl (clsE R1)))[p]? = some (cl (clsE R1) i) ↔ (f2.map (cl (clsE R2)))[p]? = some (cl (clsE R2) j) := by
  constructor
  · intro h
    rw [List.getElem?_map] at h
    obtain ⟨a, ha, ea⟩ := Option.map_eq_some_iff.mp h
    have pl := (List.getElem?_eq_some_iff.mp ha).1
    have pl2 : p < f2.length := by rw [← L.len]; exact pl
    have hb := List.getElem?_eq_getElem pl2
    generalize f2[p] = c at hb
    have q := L.at_ p a c ha hb
    have al := o1.lt a (List.mem_of_getElem? ha)
    have cl_ := o2.lt c (List.mem_of_getElem? hb)
    have z : Bis R2 R2 c j := (q.symm.trans (cls_bis k1 al hi ea)).trans b
    rw [List.getElem?_map, hb, Option.map_some, (cls_iff k2 cl_ hj).mpr z]
  · intro h
    rw [List.getElem?_map] at h
    obtain ⟨c, hc, ec⟩ := Option.map_eq_some_iff.mp h
    have pl := (List.getElem?_eq_some_iff.mp hc).1
    have pl2 : p < f1.length := by rw [L.len]; exact pl
    have ha := List.getElem?_eq_getElem pl2
    generalize f1[p] = a at ha
    have q := L.at_ p a c ha hc
    have al := o1.lt a (List.mem_of_getElem? ha)
    have cl_ := o2.lt c (List.mem_of_getElem? hc)
    have z : Bis R1 R1 a i := (q.trans (cls_bis k2 cl_ hj ec)).trans b.symm
    rw [List.getElem?_map, ha, Option.map_some, (cls_iff k1 al hi).mpr z]
theorem mem_of_iff {α β : Type} {xs : List α} {ys : List β} {a : α} {b : β} (h : ∀ p : Nat, xs[p]? = some a ↔ ys[p]? = some b) : a ∈ xs ↔ b ∈ ys := by
  rw [List.mem_iff_getElem?, List.mem_iff_getElem?]
  exact ⟨fun ⟨p, q⟩ => ⟨p, (h p).mp q⟩, fun ⟨p, q⟩ => ⟨p, (h p).mpr q⟩⟩
theorem ixG_iff {xs ys : List Nat} {a b : Nat} (m : a ∈ xs) (nd : ys.Nodup) (h : ∀ p : Nat, xs[p]? = some a ↔ ys[p]? = some b) : ixG a xs = ixG b ys := by
  have e1 := (h _).mp (ixG_at m)
  have e2 := ixG_at ((mem_of_iff h).mp m)
  exact (List.getElem?_inj (List.getElem?_eq_some_iff.mp e1).1 nd).mp (e1.trans e2.symm)
theorem Lock.put {R1 R2 : Rws} (k1 : NdOk R1) (k2 : NdOk R2) {f1 f2 : List Nat} (L : Lock R1 R2 f1 f2) (o1 : FdOk R1.length (clsE R1) f1) (o2 : FdOk R2.length (clsE R2) f2) {i j : Nat} (hi : i < R1.length) (hj : j < R2.length) (b : Bis R1 R2 i j) :
    Lock R1 R2 (if cl (clsE R1) i ∈ f1.map (cl (clsE R1)) then f1 else f1 ++ [i]) (if cl (clsE R2) j ∈ f2.map (cl (clsE R2)) then f2 else f2 ++ [j]) := by
  have iff := mem_of_iff fun p : Nat => L.mem k1 k2 o1 o2 (p := p) hi hj b
  by_cases h : cl (clsE R1) i ∈ f1.map (cl (clsE R1))
  · rw [if_pos h, if_pos (iff.mp h)]; exact L
  · rw [if_neg h, if_neg fun q => h (iff.mpr q)]
    refine ⟨by rw [List.length_append, List.length_append, L.len]; rfl, fun p a c ha hc => ?_⟩
    by_cases q : p < f1.length
    · rw [List.getElem?_append_left q] at ha
      rw [List.getElem?_append_left (by rw [← L.len]; exact q)] at hc
      exact L.at_ p a c ha hc
    · have l := (List.getElem?_eq_some_iff.mp ha).1
      rw [List.length_append, List.length_singleton] at l
      have e : p = f1.length := by omega
      subst e
      rw [List.getElem?_append_right (Nat.le_refl _), Nat.sub_self] at ha
      rw [L.len, List.getElem?_append_right (Nat.le_refl _), Nat.sub_self] at hc
      cases ha
      cases hc
      exact b
theorem Lock.vis {R1 R2 : Rws} (k1 : NdOk R1) (k2 : NdOk R2) {is js : List Nat} (p : Paired (fun i j => i < R1.length ∧ j < R2.length ∧ Bis R1 R2 i j) is js) : ∀ {f1 f2 : List Nat}, Lock R1 R2 f1 f2 → FdOk R1.length (clsE R1) f1 → FdOk R2.length (clsE R2) f2 → Lock R1 R2 (visN (clsE R1) f1 is) (visN (clsE R2) f2 js) := by
  induction p with
  | nil => intro f1 f2 L _ _; exact L
  | @cons i j is js a _ ih =>
    intro f1 f2 L o1 o2
    exact ih (L.put k1 k2 o1 o2 a.1 a.2.1 a.2.2) (o1.put a.1) (o2.put a.2.1)
theorem paired_with {α β : Type} {S T : α → β → Prop} {xs : List α} {ys : List β} (r : Paired S xs ys) (h : ∀ a b, a ∈ xs → b ∈ ys → S a b → T a b) : Paired T xs ys := by
  induction r with
  | nil => exact .nil
  | cons a _ ih => exact .cons (h _ _ List.mem_cons_self List.mem_cons_self a) (ih fun x y hx hy q => h x y (List.mem_cons_of_mem _ hx) (List.mem_cons_of_mem _ hy) q)
theorem Lock.grow {R1 R2 : Rws} (k1 : NdOk R1) (k2 : NdOk R2) : ∀ (n at_ : Nat) {f1 f2 : List Nat}, Lock R1 R2 f1 f2 → FdOk R1.length (clsE R1) f1 → FdOk R2.length (clsE R2) f2 → Lock R1 R2 (growN R1 (clsE R1) n at_ f1) (growN R2 (clsE R2) n at_ f2)
  | 0, _, _, _, L, _, _ => L
  | n + 1, at_, f1, f2, L, o1, o2 => by
    rw [growN_succ, growN_succ]
    cases h1 : f1[at_]? with
    | none =>
      have h2 : f2[at_]? = none := List.getElem?_eq_none (by have := List.getElem?_eq_none_iff.mp h1; rw [← L.len]; exact this)
      rw [h2]; exact L
    | some i =>
      have l := (List.getElem?_eq_some_iff.mp h1).1
      have l2 : at_ < f2.length := by rw [← L.len]; exact l
      have h2 := List.getElem?_eq_getElem l2
      generalize f2[at_] = j at h2
      rw [h2]
      have b := L.at_ at_ i j h1 h2
      have pr := paired_with (nds_rel b.row) (T := fun i j => i < R1.length ∧ j < R2.length ∧ Bis R1 R2 i j) fun a c ha hc q => ⟨getD_nds k1 ha, getD_nds k2 hc, q⟩
      exact Lock.grow k1 k2 n (at_ + 1) (Lock.vis k1 k2 pr L o1 o2) (vis_ok o1 fun a ha => getD_nds k1 ha) (vis_ok o2 fun a ha => getD_nds k2 ha)
/-- more turns do nothing -/
theorem grow_more {R : Rws} (nk : NdOk R) {c : List Nat} (m : Nat) : ∀ (n : Nat) {at_ : Nat} {fd : List Nat}, FdOk R.length c fd → at_ ≤ fd.length → R.length < n + at_ → growN R c (n + m) at_ fd = growN R c n at_ fd
  | 0, at_, fd, o, la, f => by
    exfalso
    have := o.few
    omega
  | n + 1, at_, fd, o, la, f => by
    rw [show n + 1 + m = (n + m) + 1 by omega, growN_succ, growN_succ]
    cases h : fd[at_]? with
    | none => rfl
    | some i =>
      have al := (List.getElem?_eq_some_iff.mp h).1
      obtain ⟨e, he⟩ := vis_pre c (nds (R.getD i [])) fd
      refine grow_more nk m n (vis_ok o fun j hj => getD_nds nk hj) ?_ (by omega)
      rw [he, List.length_append]; omega
theorem canon_uniq {R1 R2 : Rws} (k1 : NdOk R1) (k2 : NdOk R2) {s1 s2 : Nat} (h1 : s1 < R1.length) (h2 : s2 < R2.length) (b : Bis R1 R2 s1 s2) : canonN R1 s1 = canonN R2 s2 := by
  have L0 : Lock R1 R2 [s1] [s2] := ⟨rfl, fun p i j hi hj => by
    cases p with
    | zero => cases hi; cases hj; exact b
    | succ p => simp at hi⟩
  have o1 := (gi_start (c := clsE R1) h1).ok
  have o2 := (gi_start (c := clsE R2) h2).ok
  have e1 : foundN R1 (clsE R1) s1 = growN R1 (clsE R1) (R1.length + 1 + R2.length) 0 [s1] := (grow_more k1 R2.length (R1.length + 1) o1 (Nat.zero_le _) (by omega)).symm
  have e2 : foundN R2 (clsE R2) s2 = growN R2 (clsE R2) (R1.length + 1 + R2.length) 0 [s2] := by
    rw [show R1.length + 1 + R2.length = R2.length + 1 + R1.length by omega]
    exact (grow_more k2 R1.length (R2.length + 1) o2 (Nat.zero_le _) (by omega)).symm
  have L : Lock R1 R2 (foundN R1 (clsE R1) s1) (foundN R2 (clsE R2) s2) := by
    rw [e1, e2]
    exact Lock.grow k1 k2 _ 0 L0 o1 o2
  obtain ⟨fo1, cl1⟩ := found_all k1 (c := clsE R1) h1
  obtain ⟨fo2, cl2⟩ := found_all k2 (c := clsE R2) h2
  unfold canonN
  generalize foundN R1 (clsE R1) s1 = f1 at L fo1 cl1
  generalize foundN R2 (clsE R2) s2 = f2 at L fo2 cl2
  apply List.ext_getElem?
  intro p
  rw [List.getElem?_map, List.getElem?_map]
  cases hp : f1[p]? with
  | none =>
    have hq : f2[p]? = none := List.getElem?_eq_none (by have := List.getElem?_eq_none_iff.mp hp; rw [← L.len]; exact this)
    rw [hq]; rfl
  | some i =>
    have l := (List.getElem?_eq_some_iff.mp hp).1
    have l2 : p < f2.length := by rw [← L.len]; exact l
    have hq := List.getElem?_eq_getElem l2
    generalize f2[p] = j at hq
    rw [hq, Option.map_some, Option.map_some]
    congr 1
    have im := List.mem_of_getElem? hp
    have jm := List.mem_of_getElem? hq
    have br := (L.at_ p i j hp hq).row
    have cl1 := cl1 i im
    apply List.ext_getElem?
    intro x
    unfold numRow
    rw [List.getElem?_map, List.getElem?_map]
    rcases br x with ⟨a, c, a1, a2, bb⟩ | ⟨n, e⟩
    · rw [a1, a2, Option.map_some, Option.map_some]
      have am := cl1 a (nds_mem.mpr (List.mem_of_getElem? a1))
      show some (Itm.nd (ixG (cl (clsE R1) a) (f1.map (cl (clsE R1))))) = some (Itm.nd (ixG (cl (clsE R2) c) (f2.map (cl (clsE R2)))))
      rw [ixG_iff am fo2.nd fun p : Nat => L.mem k1 k2 fo1 fo2 (getD_nd k1 a1) (getD_nd k2 a2) bb]
    · rw [← e]
      cases hx : (R1.getD i [])[x]? with
      | none => rfl
      | some it =>
        have no : ¬ ∃ k, it = .nd k := fun ⟨k, hk⟩ => n ⟨k, k, by rw [hx, hk], by rw [← e, hx, hk]⟩
        rw [Option.map_some, Option.map_some, pt_no no, pt_no no]
/-- equal results: the same rows -/
theorem canon_iff {R1 R2 : Rws} (k1 : NdOk R1) (k2 : NdOk R2) {s1 s2 : Nat} (h1 : s1 < R1.length) (h2 : s2 < R2.length) : canonN R1 s1 = canonN R2 s2 ↔ Bis R1 R2 s1 s2 :=
  ⟨fun e => (bis_canon0 k1 h1).trans (e ▸ (bis_canon0 k2 h2).symm), canon_uniq k1 k2 h1 h2⟩
/-- the rows told again -/
theorem canon_again {R : Rws} (k : NdOk R) {st p i : Nat} (h : st < R.length) (hp : (foundN R (clsE R) st)[p]? = some i) : canonN (canonN R st) p = canonN R i := by
  obtain ⟨fo, _⟩ := found_all k (c := clsE R) h
  have pl := (List.getElem?_eq_some_iff.mp hp).1
  refine (canon_uniq k (canon_nd k h) (fo.lt i (List.mem_of_getElem? hp)) ?_ (bis_canon k h hp)).symm
  unfold canonN
  rw [List.length_map]; exact pl
theorem canon_idem {R : Rws} (k : NdOk R) {st : Nat} (h : st < R.length) : canonN (canonN R st) 0 = canonN R st := canon_again k h (found_zero R _ st)
end Mf


namespace Mf
open PySem L2

/-- the rule for making an error, also with keywords: the check of its maker -/
theorem eck {M : Model} {A : Around} {E : Value → Shared → Prop} {h : Heap} {g : Array GenState}
    {d : Drawn} {t : Nat} {os : OsState} {nm q : Str} {C N : Addr} {bs bm bmB : List Value} {hdct : Bool} {sn : List Str}
    {sub : List Value} {ab : Bool} {col : Option Bool} {dd : Option Addr} {k0 k1 k2 k3 k5 : Option Value}
    {B newId initId : String} (F : ExcBaseFacts B newId initId bmB)
    (hb : ∀ X : String, bm.contains (Value.type X) = bmB.contains (Value.type X))
    {rest : List Value} {kw : List (Str × Value)} {Q : Unit → Shared → Prop}
    (hC : h.get? C = some (excClassObj nm q C N bs bm hdct sn sub ab col dd k0 k1 k2 k3 k5 newId))
    (hQ : Q () ⟨h, g, d, t, os⟩) :
    wpAny M A (checkBuiltinCall newId ⟨.ref C :: rest, kw⟩) Q E ⟨h, g, d, t, os⟩ := by
  have hB : List.contains (Value.ref C :: bm) (Value.type B) = true := by
    rw [List.contains_cons, hb, F.hasB, Bool.or_true]
  unfold checkBuiltinCall
  simp only [F.newKind, F.newSplit, F.newRow]
  rw [if_pos (by decide)]
  refine wpAny_bind (wpAny_bind (wpAny_loadPart_at hC ?_))
  refine wpAny_pure ?_
  refine wpAny_ite_false (by rfl) ?_
  refine wpAny_bind (wpAny_isSubtype_exc hC ?_)
  rw [hB]
  refine wpAny_ite_false (by rfl) ?_
  refine wpAny_bind (wpAny_staticBase_exc hC ?_)
  refine wpAny_bind (wpAny_madeBy_exc hC ?_)
  simp only [bne_self_eq_false, Bool.false_eq_true, if_false]
  have nst : (B == "*") = false := by have := F.noStar; simpa using this
  unfold Bind.checkArgs
  simp only [Bind.printed, F.noStar, nst, Bool.false_and, if_false, if_true, Bool.false_eq_true, pure_bind, Bind.check]
  exact wpAny_onRaise (wpAny_pure hQ)

theorem enew {prog : Program} {w : World} {A : Around} {R : Result → Shared → Prop} {h : Heap} {g : Array GenState}
    {d : Drawn} {t : Nat} {os : OsState} {nm q : Str} {C N : Addr} {bs bm bmB : List Value} {hdct : Bool} {sn : List Str}
    {sub : List Value} {ab : Bool} {col : Option Bool} {dd : Option Addr} {k0 k1 k2 k3 k5 : Option Value}
    {B newId initId : String} (F : ExcBaseFacts B newId initId bmB)
    (hb : ∀ X : String, bm.contains (Value.type X) = bmB.contains (Value.type X))
    {rest : List Value} {kw : List (Str × Value)}
    (hC : h.get? C = some (excClassObj nm q C N bs bm hdct sn sub ab col dd k0 k1 k2 k3 k5 newId))
    (hR : R (.ok (.ret (.ref (h.objs.size + 1))))
      ⟨(h.push (W.kdv_tup rest)).push (HandSPX.excO C h.objs.size), g, d, t, os⟩)
    (hl : rest.length ≤ sizeLine) :
    codeAny (model prog w) A (.builtin newId ⟨.ref C :: rest, kw⟩) R ⟨h, g, d, t, os⟩ := by
  have hB : List.contains (Value.ref C :: bm) (Value.type B) = true := by
    rw [List.contains_cons, hb, F.hasB, Bool.or_true]
  have hA : List.contains (Value.ref C :: bm) (Value.type "AttributeError") = false := by
    rw [List.contains_cons, hb, F.noAttr]; rfl
  have hN : List.contains (Value.ref C :: bm) (Value.type "NameError") = false := by
    rw [List.contains_cons, hb, F.noName]; rfl
  refine codeAny_builtinAt F.entry ?_
  unfold Builtin.«BaseException.__new__»
  refine wpAt_bind ?_
  refine wpAt_bind (wpAt_stack fun p below => ?_)
  refine wpAt_of_wpAny ?_
  refine wpAny_ite_true (by rw [F.ends]; rfl) ?_
  refine wpAny_pure ?_
  rw [F.owner]
  refine wpAt_of_wpAny ?_
  refine wpAny_bind (wpAny_bind (wpAny_loadPart_at hC (wpAny_pure ?_)))
  refine wpAny_ite_false (by rfl) ?_
  refine wpAny_bind (wpAny_isSubtype_exc hC ?_)
  rw [hB]
  refine wpAny_ite_false (by rfl) ?_
  refine wpAny_bind (wpAny_madeHere_exc F.canon hC ?_)
  refine wpAny_bind (wpAny_bind (wpAny_isSubtype_exc hC ?_))
  rw [hA]
  refine wpAny_ite_false (by rfl) ?_
  refine wpAny_bind (wpAny_isSubtype_exc hC ?_)
  rw [hN]
  refine wpAny_ite_false (by rfl) ?_
  refine wpAny_pure ?_
  unfold newTuple newObj
  refine wpAny_bind (wpAny_ite_false (by
    rw [List.size_toArray]; exact decide_eq_false (Nat.not_lt.mpr hl)) ?_)
  unfold newObjAsIs
  refine wpAny_bind (wpAny_alloc' ?_)
  refine wpAny_pure ?_
  refine wpAny_bind (wpAny_ite_false (by
    show decide (6 > sizeLine + 2) = false
    rw [sizeLine_eq]; rfl) ?_)
  refine wpAny_bind (wpAny_alloc' ?_)
  refine wpAny_bind (wpAny_bind (wpAny_load' (Heap.get?_push_of_some _ (Heap.get?_push_of_some _ hC)) (wpAny_pure ?_)))
  refine wpAny_ite_false (by rfl) ?_
  refine wpAny_pure ?_
  refine wpAny_pure ?_
  rw [Heap.size_push]
  exact hR

theorem etype {prog : Program} {w : World} {A A' : Around} {R : Result → Shared → Prop} {h : Heap} {g : Array GenState}
    {d : Drawn} {t : Nat} {os : OsState} {nm q : Str} {C N : Addr} {bs bm bmB : List Value} {hdct : Bool} {sn : List Str}
    {sub : List Value} {ab : Bool} {col : Option Bool} {dd : Option Addr} {k0 k1 k2 k3 k5 : Option Value}
    {B newId initId : String} (F : ExcBaseFacts B newId initId bmB)
    (hb : ∀ X : String, bm.contains (Value.type X) = bmB.contains (Value.type X))
    {rest : List Value} {kw : List (Str × Value)} {fI : Addr}
    (hC : h.get? C = some (excClassObj nm q C N bs bm hdct sn sub ab col dd k0 k1 k2 k3 k5 newId))
    (hi : W.Looks (model prog w) h (typeLookup (.ref C) (Str.ofString "__init__")) (some (.ref fI)))
    (hs : ∀ self : Value, W.Looks (model prog w) h (bindSpecial (.ref fI) self) (.ref fI, [self]))
    (hl : rest.length ≤ sizeLine)
    (hR : codeAny (model prog w) A
      (.call (.ref fI) ⟨.ref (h.objs.size + 1) :: rest, kw⟩) (W.InitBack (h.objs.size + 1) R)
      ⟨(h.push (W.kdv_tup rest)).push (HandSPX.excO C h.objs.size), g, d, t, os⟩) :
    wpAny (model prog w) A (Builtin.«type.__call__» ⟨.ref C :: rest, kw⟩)
      (fun fin s' => match fin with
        | Fin.done f => R (.ok f) s'
        | Fin.again c' => c'.quiet = true ∧ codeAny (model prog w) A' c' R s')
      (fun e s' => R (.error e) s') ⟨h, g, d, t, os⟩ := by
  unfold Builtin.«type.__call__»
  refine wpAny_ite_false (by rfl) ?_
  dsimp only
  refine wpAny_bind ?_
  unfold mroOf classData
  refine wpAny_bind (wpAny_bind (wpAny_load' hC (wpAny_pure (wpAny_pure ?_))))
  refine wpAny_ite_false (by rfl) ?_
  refine wpAny_bind (wpAny_madeBy_exc hC ?_)
  dsimp only
  refine wpAny_bind (wpAny_pure ?_)
  refine wpAny_bind (wpAny_holding (wpAny_call ?_))
  refine codeAny_call_builtin_code (Code.quiet_builtin _ F.quiet) (eck F hb hC ?_)
  refine enew F hb hC ?_ hl
  have keep : ∀ (b : Addr) (o : Obj), h.get? b = some o →
      ((h.push (W.kdv_tup rest)).push (HandSPX.excO C h.objs.size)).get? b = some o :=
    fun b o hbo => Heap.get?_push_of_some _ (Heap.get?_push_of_some _ hbo)
  have atE : ((h.push (W.kdv_tup rest)).push (HandSPX.excO C h.objs.size)).get? (h.objs.size + 1)
      = some (HandSPX.excO C h.objs.size) :=
    Heap.get?_push_at (by rw [Heap.size_push]) rfl
  have hC2 := keep _ _ hC
  dsimp only
  unfold isInstance
  refine wpAny_bind (wpAny_bind ?_)
  unfold typeOf
  refine wpAny_bind (wpAny_loadPart_at atE (wpAny_pure ?_))
  refine wpAny_isSubtype_exc hC2 ?_
  have cC : List.contains (Value.ref C :: bm) (Value.ref C) = true := by
    rw [List.contains_cons, beq_self_eq_true, Bool.true_or]
  rw [cC]
  refine wpAny_ite_false (by rfl) ?_
  unfold callSpecial? specialOf typeOf
  refine wpAny_bind (wpAny_holding (wpAny_bind (wpAny_bind (wpAny_bind (wpAny_loadPart_at atE (wpAny_pure ?_))))))
  refine hi _ _ _ _ keep ?_
  refine wpAny_holding (wpAny_bind (hs _ _ _ _ _ keep ?_))
  refine wpAny_bind (wpAny_call (codeAny_mono hR ?_))
  intro r s' hr
  unfold W.InitBack at hr
  match r, hr with
  | .ok (.ret v), hr =>
    obtain ⟨rfl, hr⟩ := hr
    refine wpAny_pure ?_
    refine wpAny_ite_false (by rfl) ?_
    exact wpAny_pure hr
  | .error e, hr => exact hr

theorem qTC : ("type.__call__" : String).startsWith "lifetime." = false := by decide +kernel

theorem ecall {prog : Program} {w : World} {A : Around} {R : Result → Shared → Prop} {h : Heap} {g : Array GenState}
    {d : Drawn} {t : Nat} {os : OsState} {nm q : Str} {C N : Addr} {bs bm bmB : List Value} {hdct : Bool} {sn : List Str}
    {sub : List Value} {ab : Bool} {col : Option Bool} {dd : Option Addr} {k0 k1 k2 k3 k5 : Option Value}
    {B newId initId : String} (F : ExcBaseFacts B newId initId bmB)
    (hb : ∀ X : String, bm.contains (Value.type X) = bmB.contains (Value.type X))
    {rest : List Value} {kw : List (Str × Value)} {fI : Addr}
    (hC : h.get? C = some (excClassObj nm q C N bs bm hdct sn sub ab col dd k0 k1 k2 k3 k5 newId))
    (hi : W.Looks (model prog w) h (typeLookup (.ref C) (Str.ofString "__init__")) (some (.ref fI)))
    (hs : ∀ self : Value, W.Looks (model prog w) h (bindSpecial (.ref fI) self) (.ref fI, [self]))
    (hl : rest.length ≤ sizeLine)
    (hR : codeAny (model prog w) (A.under (.builtin "type.__call__" ⟨.ref C :: rest, kw⟩))
      (.call (.ref fI) ⟨.ref (h.objs.size + 1) :: rest, kw⟩) (W.InitBack (h.objs.size + 1) R)
      ⟨(h.push (W.kdv_tup rest)).push (HandSPX.excO C h.objs.size), g, d, t, os⟩) :
    codeAny (model prog w) A (.call (.ref C) ⟨rest, kw⟩) R ⟨h, g, d, t, os⟩ := by
  have hB : List.contains (Value.ref C :: bm) (Value.type B) = true := by
    rw [List.contains_cons, hb, F.hasB, Bool.or_true]
  refine codeAny_of_tree ?_
  show wpAny (model prog w) _ (callAny (.ref C) ⟨rest, kw⟩) _ _ _
  unfold callAny
  refine wpAny_bind (wpAny_load' hC ?_)
  show wpAny (model prog w) _ (callAny.viaDunder (.ref C) ⟨rest, kw⟩) _ _ _
  unfold callAny.viaDunder
  refine wpAny_bind (wpAny_specialOf (T := "type") ⟨_, hC, rfl⟩ tc_lookup ?_)
  refine wpAny_bind (wpAny_of_eq (tc_bind _) ?_)
  have pc : callAny.plainCallee (.builtin "type.__call__") = pure true := by
    unfold callAny.plainCallee
    rfl
  refine wpAny_bind (wpAny_of_eq pc ?_)
  refine wpAny_ite_true rfl ?_
  refine wpAny_pure ?_
  refine ⟨rfl, ?_⟩
  refine codeAny_call_builtin_at (Code.quiet_builtin _ qTC) entry_typeCall ?_
  have ck : ∀ (A' : Around) (E : Value → Shared → Prop) (Q : Unit → Shared → Prop), Q () ⟨h, g, d, t, os⟩ →
      wpAny (model prog w) A' (checkBuiltinCall "type.__call__" ⟨.ref C :: rest, kw⟩) Q E ⟨h, g, d, t, os⟩ := by
    intro A' E Q hQ
    have lk : W.Looks (model prog w) h (isInstance (.ref C) (.type "type")) true := by
      intro A Q E s hk hq
      obtain ⟨h2, g2, d2, t2, os2⟩ := s
      exact wpAny_isInstance (T := "type") (U := "type") (b := true) ⟨_, hk _ _ hC, rfl⟩ tc_sub hq
    have := @W.check_slot (model prog w) A' E ⟨h, g, d, t, os⟩ "type.__call__" "type" "__call__" (.ref C) rest kw Q
    exact this tc_kind tc_split lk (W.tc_args _ _ _) hQ
  have go := etype (A' := A) F hb hC hi hs hl hR
  exact ck _ _ _ go
end Mf
namespace Mf
open PySem L2
theorem kBG : builtinKind "BaseException.__getattribute__" = some Manifest.AttrKind.slot := by decide +kernel
theorem sBG : splitId "BaseException.__getattribute__" = some ("BaseException", "__getattribute__") := by decide +kernel
theorem kin_cls {prog : Program} {w : World} {A : Around} {E : Value → Shared → Prop} {s : Shared}
    {K : W.Frag} {x D : Addr} {ox od : Obj} {Q : Option Value → Shared → Prop} (C : ExcC K D)
    (X : K.In s.heap) (I : W.InstAt s.heap x ox D (some od))
    (h : Q (some (.ref D)) { heap := s.heap, gens := s.gens, drawn := s.drawn, toks := s.toks + 1, os := s.os }) :
    wpAny (model prog w) A (getAttr? (.ref x) (Str.ofString "__class__")) Q E s := by
  have hc : (W.clsIn K D).isSome = true := by
    obtain ⟨cd, hc, -⟩ := W.any_some C.hd
    rw [hc]; rfl
  have hf := W.findObj_data (od := od) hc C.ha C.hn C.ht
  obtain ⟨hp, g, d, t, os⟩ := s
  have L0 := W.InstAt.type I (M := model prog w)
  have L1 := W.looks_findIn X C.hg (M := model prog w)
  have L2 := W.looks_findIn X C.hk (M := model prog w)
  have L3 := W.looks_find X I hf (M := model prog w)
  have sub : W.Looks (model prog w) hp (isInstance (.ref x) (.type "BaseException")) true :=
    W.Looks.andThen L0 (W.looks_subIn X C.hs)
  unfold getAttr?
  refine wpAny_bind (wpAny_mkText ?_)
  unfold getAttrBy?
  refine wpAny_bind (wpAny_attempt (wpAny_holding ?_))
  refine wpAny_bind (L0.at (wpAny_bind (L1.at ?_)))
  dsimp only
  have e1 : (onTheHeap (.ref D) && (Value.builtin "BaseException.__getattribute__" == Value.builtin "object.__getattribute__")) = false := by
    rw [Bool.and_eq_false_iff]; exact .inr (by decide)
  rw [e1, if_neg Bool.false_ne_true]
  unfold getAttrByItsOwn hookBefore
  refine wpAny_bind ?_
  rw [if_pos (show onTheHeap (.ref D) = true from rfl)]
  refine L2.at ?_
  refine wpAny_bind (wpAny_attempt (wpAny_holding ?_))
  unfold callGetattribute
  rw [Bool.false_and, if_neg Bool.false_ne_true]
  unfold boundAndCalled
  refine wpAny_bind (wpAny_of_eq (F.excAttr_ValueError.ga.bind (.ref x)) ?_)
  refine wpAny_call ?_
  refine codeAny_call_builtin F.excAttr_ValueError.ga.plain F.entry_bexc_ga ?_
  have ck : ∀ (A' : Around) (E' : Value → Shared → Prop) (Q' : Unit → Shared → Prop) (s' : Shared), s'.heap = hp → Q' () s' →
      wpAny (model prog w) A' (checkBuiltinCall "BaseException.__getattribute__" ⟨[.ref x, .str (Str.ofString "__class__") t], []⟩) Q' E' s' := by
    intro A' E' Q' s' hh hq
    subst hh
    have := @W.check_slot (model prog w) A' E' s' "BaseException.__getattribute__" "BaseException" "__getattribute__" (.ref x) [.str (Str.ofString "__class__") t] [] Q'
    exact this kBG sBG sub (F.args_bexc_ga _ _) hq
  refine ck _ _ _ _ rfl ?_
  unfold Builtin.«object.__getattribute__»
  refine wpAny_bind (wpAny_of_eq rfl ?_)
  show wpAny (model prog w) _ (do
      let name ← Builtin.ObjectAttr.attrName (.str (Str.ofString "__class__") t)
      _) _ _ _
  refine wpAny_bind (wpAny_pure ?_)
  refine wpAny_bind (L0.at ?_)
  refine wpAny_bind (L3.at ?_)
  dsimp only
  unfold Builtin.ObjectAttr.bindTo
  refine wpAny_bind (wpAny_holding (wpAny_call (W.class_get X I C.hm ?_)))
  refine wpAny_pure ?_
  dsimp only
  rw [W.handedOut_of rfl]
  exact wpAny_pure (wpAny_pure h)
end Mf
namespace Mf
open PySem L2

theorem cls_look {K : W.Frag} {D : Addr} (h : W.hasDictIn K D = true) :
    ∃ c d cd sl, K.lookup D = some ⟨c, d, .cls cd, sl⟩ := by
  obtain ⟨cd, hc, -⟩ := W.any_some h
  unfold W.clsIn at hc
  split at hc
  · rename_i c d cd sl e; exact ⟨_, _, _, _, e⟩
  · exact absurd hc (by simp)

theorem kit_exo {K : W.Frag} {x D : Addr} {ox od : Obj} (C : ExcC K D) :
    W.KitX K (.ref x) (.ref D) fun h => W.InstAt h x ox D (some od) where
  ty := fun _ _ _ I => W.InstAt.type I
  it := by
    intro M h X _ A Q E s k q
    obtain ⟨c, d, cd, sl, e⟩ := cls_look C.hd
    exact wpAny_bind (wpAny_loadPart (k D _ (X D _ e)) (wpAny_pure q))
  ne := by
    intro h tp dd its n sl X ht
    obtain ⟨c, d, cd, sl', e⟩ := cls_look C.hd
    refine Bool.eq_false_iff.mpr fun q => ?_
    have e2 := Value.ref.inj (beq_iff_eq.mp q)
    subst e2
    have := (X D _ e).symm.trans ht
    simp at this
  ca := fun X I k => kin_cls C X I k

theorem inst_exo {P : Program} {w : World} {H : Hp} {h : Heap} {a D dx : Addr} {fs : List (Str × V)} (O : HOk P w H h)
    (ha : H a = some (exo a D (some dx))) (hd : H dx = some (exd dx fs)) :
    ∃ ox od, W.InstAt h a ox D (some od) ∧ ∀ f v, fs.lookup f = some v → ∃ u, W.lookIn f od = some (some u) ∧ RelV v u := by
  obtain ⟨⟨t1, e1⟩, -⟩ := O a _ ha
  obtain ⟨⟨mA, n1, r1⟩, -⟩ := O dx _ hd
  obtain ⟨od, ho, hl⟩ := lookIn_ns n1
  refine ⟨_, od, ⟨e1, rfl, rfl, ho⟩, fun f v hf => ?_⟩
  have r := r1 f
  rw [hf] at r
  obtain ⟨u, hu, ru⟩ := RelO.some_of r
  exact ⟨u, by rw [hl, hu], ru⟩

/-- an attribute of an error that lies in a variable -/
def tXa (K : W.Frag) (n : Str) (te : TE) : TE := fun σ H Q => te σ H fun x H1 =>
  ∃ (a D dx : Addr) (fs : List (Str × V)) (v : V), x = .ref a ∧ H1 a = some (exo a D (some dx)) ∧ H1 dx = some (exd dx fs) ∧
    XfC K D ∧ W.findIn K (.ref D) n = some none ∧ fs.lookup n = some v ∧ Q v H1

theorem pe_xa {X : Cx} {e : PySem.Expr} {te : TE} {pos : Pos} {n : Str} (he : PE X e te)
    (hb : attributeBase e n X.env (eval e X.env) = eval e X.env := by rfl) : PE X (.Attribute e n pos) (tXa X.K n te) := by
  refine ⟨fun pins s σ H Q I h => attr_of hb (thn (he.run pins s σ H _ I h) ?_)⟩
  rintro u s1 ⟨x, H1, I1, rx, a, D, dx, fs, v, rfl, ha, hd, T, hno, hf, q⟩
  obtain ⟨ox, od, J, hl⟩ := inst_exo I1.hok ha hd
  obtain ⟨u', hu, ru⟩ := hl _ _ hf
  have ex : u = .ref a := rx
  subst ex
  exact HandSPX.exc_get I1.kIn J T.ga T.gg T.exC (W.findObj_own T.hdC hno rfl hu) (handed_of ru) ⟨v, H1, I1.tok _, ru, q⟩

/-- isinstance of such an error -/
def rIsO (K : W.Frag) (xs : List V) (H : Hp) (Q : VK) : Prop :=
  ∃ (a D dx : Addr) (fs : List (Str × V)) (c : V) (cv : Value) (b : Bool), xs = [.ref a, c] ∧ H a = some (exo a D (some dx)) ∧
    H dx = some (exd dx fs) ∧ ExcC K D ∧ (∀ u, RelV c u → u = cv) ∧ W.kitOne K (.ref D) cv = some b ∧ Q (.bl b) H

theorem call_isO {X : Cx} : CallR X (.builtin "isinstance") (rIsO X.K) := by
  rintro pins s σ H xs us Q I r ⟨a, D, dx, fs, c, cv, b, rfl, ha, hd, C, hcv, hk, q⟩
  match us, r with
  | [_, _], .cons rx (.cons rc .nil) =>
    obtain ⟨ox, od, J, -⟩ := inst_exo I.hok ha hd
    have ex : _ = Value.ref a := rx
    subst ex
    rw [hcv _ rc]
    exact W.kia_one (kit_exo C) I.kIn J hk (by simp) fun tk => ⟨.bl b, H, I.tok _, rfl, q⟩
end Mf
/-! x[y] by an own __getitem__ that may raise, within a try; own errors raised. -/
namespace Mf
open PySem PySem.Spec PyProof.Rows L2
section
variable {X : Cx} {CX : CXT} {k : Nat} {f C a dx : Addr} {fd : FuncData} {ps : List Str} {sp : Sp} {E : L2.St → XK} {ds : List Value} {dvs : List V} {pins : List (Addr × Obj)} {σ : L2.St} {H : Hp} {s : Shared} {fs : List (Str × V)}
theorem run_inS {A : Around} {Q : VK} {us : List Value} {vs : List V} (F : FnOk X.prog X.w X.K X.mg X.base CX k f fd ps sp) (hr : Room k A) (hb : Binds X.K fd ps ds) (hd : Vals dvs ds) (hx : PassesAt CX X σ (E σ))
    (e0 : Env0 X.prog X.w X.K X.mg X.base A X.stack s H) (I : Inv X pins σ H s) (r : Vals vs us) (h : sp (vs ++ dvs) H Q (E σ)) : wpAny (model X.prog X.w) A (call (.ref f) us) (EP X pins σ Q) X.xe s := by
  have r2 : Vals (vs ++ dvs) (us ++ ds) := r.append hd
  have hl : (us ++ ds).length = ps.length := by rw [← r2.length]; exact F.len _ _ _ _ h
  refine wpAny_call (codeAny_mono (F.run A X.stack s H ⟨us, []⟩ (us ++ ds) (vs ++ dvs) Q (E σ) hr e0 (hb s us I.kIn hl) r2 h) fun r s' hq => ?_)
  rcases r with e | fl
  · exact hx pins H s e s' I hq
  · rcases fl with _ | _ | _ | u
    all_goals first | exact False.elim hq | exact I.after hq
/-- x[y], the def may raise -/
def tGetS (C : Addr) (sp : Sp) (E : L2.St → XK) (to ti : TE) : TE := fun σ H Q => to σ H fun x H1 => ti σ H1 fun y H2 => ∃ a dx fs, x = .ref a ∧ H2 a = some (.ins C dx fs) ∧ sp [x, y] H2 Q (E σ)
theorem pe_getS {o i : Expr} {to ti : TE} {pos : Pos} (m : Meth X.K C "__getitem__" f) (fn : PySem.W.fnIn X.K f = true) (F : FnOk X.prog X.w X.K X.mg X.base CX k f fd ps sp) (hr : Room (k + 1) X.A) (hb : Binds X.K fd ps []) (hx : ∀ σ, PassesAt CX X σ (E σ)) (ho : PE X o to) (hi : PE X i ti)
    (hsl : ∀ x y, subscripted i true x y = runValue (.builtin "lifetime.subscript" ⟨[x, y], []⟩) := by intro _ _; with_unfolding_all rfl) : PE X (.Subscript o i pos) (tGetS C sp E to ti) := by
  refine ⟨fun pins s σ H Q I h => ?_⟩
  refine Subscript_ (binT ho hi I h fun v u s2 x y H2 I2 rx ry q => ?_)
  obtain ⟨a, dx, fs, rfl, ha, q⟩ := q
  cases (show v = Value.ref a from rx)
  obtain ⟨od, J⟩ := Inv.inst I2 ha
  obtain ⟨mm, hF⟩ := I2.fr
  refine PySem.W.sub_K hF I2.ok.mod.kin J m.at_ fn m.fn ?_ (hsl _ _)
  exact run_inS (us := [.ref a, u]) (vs := [.ref a, y]) F hr.in1 hb .nil (hx σ) I2.env0.in1 I2 (.cons rfl (.cons ry .nil)) (by rw [List.append_nil]; exact q)
theorem om_getS {o i : Expr} {to ti : TE} {pos : Pos} (c : CalM X.prog X.w X.K X.mg X.base CX k C "__getitem__" ps sp) (hr : Room (k + 1) X.A) (hx : ∀ σ, PassesAt CX X σ (E σ)) (ho : PE X o to) (hi : PE X i ti)
    (hsl : ∀ x y, subscripted i true x y = runValue (.builtin "lifetime.subscript" ⟨[x, y], []⟩) := by intro _ _; with_unfolding_all rfl) : PE X (.Subscript o i pos) (tGetS C sp E to ti) := by
  obtain ⟨f, fd, M, fn, F, b⟩ := c.ex
  exact pe_getS M fn F hr b hx ho hi hsl
/-- f(..), f may raise -/
theorem pe_calS {x : Str} {p pos : Pos} {e : Expr} {es : List Expr} {t : TA} (c : Cal X.prog X.w X.K X.mg X.base CX k x ps sp) (hr : Room k X.A) (hx : ∀ σ, PassesAt CX X σ (E σ)) (ha : PA X (e :: es) t) (hg : Gl X x := by rfl)
    (hdb : (x == ("__debug__" : Str)) = false := by decide) (he : starEach (e :: es) X.env = (false, eval e X.env) :: starEach es X.env := by rfl) (hpl : (backTo pos (starEach es X.env)).any (·.1) = false := by rfl) :
    PE X (.Call (.Name x p) (e :: es) [] pos) (tCallS sp E t) := by
  obtain ⟨f, fd, F, m, kp, b⟩ := c.ex
  exact pe_callS F hr hg m kp b hx ha hdb he hpl
end
/-- an own error with one field: the class at C, its __init__ -/
structure ErC (P : Program) (w : World) (K : PySem.W.Frag) (mg : Str → Option Value) (base : Heap) (x : Str) (C : Addr) (ps : List Str) (sp : Sp) : Prop where
  ex : ∃ (f : Addr) (fd : FuncData), PySem.W.findIn K (.ref C) "__init__" = some (some (.ref f)) ∧ PySem.W.typeIn K (.ref f) = some (.type "function") ∧ FnOk P w K mg base CX0 1 f fd ps sp ∧ Binds K fd ps []
  oex : OexC K C
  xf : XfC K C
  mgC : mg x = some (.ref C)
  exm : PySem.W.exmOne K (.ref C) (.ref C) = some true
theorem pmk_er {X : Cx} {x : Str} {C : Addr} {ps : List Str} {sp : Sp} {e : Expr} {es : List Expr} {ta : TA} {p pos : Pos} (c : ErC X.prog X.w X.K X.mg X.base x C ps sp) (hr : Room 2 X.A) (hx : Passes CX0 X (fun _ _ _ => False)) (ha : PA X (e :: es) ta) (hg : Gl X x := by rfl)
    (hdb : (x == ("__debug__" : Str)) = false := by decide) (he : starEach (e :: es) X.env = (false, eval e X.env) :: starEach es X.env := by rfl) (hpl : (backTo pos (starEach es X.env)).any (·.1) = false := by rfl) :
    PMk X (.Call (.Name x p) (e :: es) [] pos) (tMkO C sp [] ta) := by
  obtain ⟨f, fd, i, t, F, b⟩ := c.ex
  exact pmk_oex c.oex i t F hr b .nil hx hg c.mgC ha hdb he hpl
end Mf
namespace Mf
open PySem L2
/-! ### the head -/
abbrev vTail : List Value := [.type "ValueError", .type "Exception", .type "BaseException", .type "object"]
/-- what stands in the fragment of an error class -/
structure ClF (K : PySem.W.Frag) (M C : Addr) (nm : Str) : Prop where
  ex : ∃ q N bs sn sub ab col dd k0 k1 k2 k3 k5, K.lookup C = some (excClassObj nm q C N bs (.ref M :: vTail) true sn sub ab col dd k0 k1 k2 k3 k5 "ValueError.__new__")
  sa : PySem.W.findIn K (.ref C) "__setattr__" = some (some (.builtin "object.__setattr__"))
  ty : PySem.W.typeIn K (.ref C) = some (.type "type")
  kc : PySem.W.keepIn K (.ref C) = true
  hg : PySem.W.findIn K (.ref C) "__getattribute__" = some (some (.builtin "BaseException.__getattribute__"))
  hk : PySem.W.findIn K (.ref C) "__getattr__" = some none
  ha : PySem.W.findIn K (.ref C) "__class__" = some (some (.builtin "object.__class__"))
  hd : PySem.W.hasDictIn K C = true
section
variable {K : PySem.W.Frag} {M C C' : Addr} {nm nm' : Str} {P : Program} {w : World} {mg : Str → Option Value} {base : Heap} {CX : CXT} {k : Nat} {x qual : Str} {st : Stmt} {f : Addr} {ps ks : List Str} {sp : Sp} {g : List Value → List Value → List Value} {gV : List V → List V → List V}
theorem ClF.cls (D : ClF K M C nm) : ∃ cd, PySem.W.clsIn K C = some cd ∧ cd.mro = .ref C :: .ref M :: vTail := by
  obtain ⟨q, N, bs, sn, sub, ab, col, dd, k0, k1, k2, k3, k5, l⟩ := D.ex
  refine ⟨{ hasDict := true, mro := .ref C :: .ref M :: vTail, name := nm, ns := N, bases := bs, qualname := q, slotNames := sn, abstract := ab, subclasses := sub, collection := col }, ?_, rfl⟩
  unfold PySem.W.clsIn
  rw [l]
theorem ClF.mro (D : ClF K M C nm) (b : Value) : PySem.W.mroIn K C b = some ((Value.ref C :: .ref M :: vTail).contains b) := by
  obtain ⟨cd, h, e⟩ := D.cls
  unfold PySem.W.mroIn
  rw [h]
  show (if cd.mro.isEmpty = true then none else some (cd.mro.contains b)) = _
  rw [e]; rfl
theorem ClF.oex (D : ClF K M C nm) : OexC K C := by
  obtain ⟨q, N, bs, sn, sub, ab, col, dd, k0, k1, k2, k3, k5, l⟩ := D.ex
  exact ⟨⟨_, _, _, _, _, _, _, _, _, _, _, _, _, _, _, l, rfl⟩, D.sa, (D.mro _).trans (by simp), D.ty, D.kc⟩
theorem ClF.exc (D : ClF K M C nm) (hn : PySem.W.specialIn K (.builtin "object.__class__") "__get__" = some (some (.builtin "getset_descriptor.__get__"))) (ht : PySem.W.takesIn K (.builtin "object.__class__") = some true) : ExcC K C :=
  ⟨D.hg, D.hk, (D.mro _).trans (by simp), D.hd, D.ha, hn, ht, (D.mro _).trans (by simp)⟩
theorem ClF.xf (D : ClF K M C nm) : XfC K C := ⟨D.hg, D.hk, (D.mro _).trans (by simp), D.hd⟩
theorem ClF.ne (D : ClF K M C nm) (D' : ClF K M C' nm') (h : nm ≠ nm') : C ≠ C' := by
  intro e
  subst e
  obtain ⟨q, N, bs, sn, sub, ab, col, dd, k0, k1, k2, k3, k5, l⟩ := D.ex
  obtain ⟨q', N', bs', sn', sub', ab', col', dd', k0', k1', k2', k3', k5', l'⟩ := D'.ex
  rw [l] at l'
  injection l' with l'
  injection l' with _ _ l' _
  injection l' with l'
  injection l' with l' _
  exact h l'
theorem ClF.kitS (D : ClF K M C nm) (D' : ClF K M C' nm') (n : C ≠ C') (m : C' ≠ M) : PySem.W.kitOne K (.ref C) (.ref C') = some false := by
  obtain ⟨cd, h, _⟩ := D'.cls
  unfold PySem.W.kitOne PySem.W.kitCls
  rw [if_neg (by simpa using n)]
  show (if ((PySem.W.clsIn K C').isSome && PySem.W.typeIn K (.ref C') == some (.type "type")) = true then PySem.W.mroIn K C (.ref C') else none) = some false
  rw [if_pos (by rw [h, D'.ty]; rfl), D.mro]
  simp [Ne.symm n, m]
theorem ClF.kitM (D : ClF K M C nm) (i : PySem.W.isClsIn K M = true) (t : PySem.W.typeIn K (.ref M) = some (.type "type")) : PySem.W.kitOne K (.ref C) (.ref M) = some true := by
  have i' : (PySem.W.clsIn K M).isSome = true := i
  unfold PySem.W.kitOne PySem.W.kitCls
  by_cases e : (Value.ref C == Value.ref M) = true
  · rw [if_pos e]
  · rw [if_neg e]
    show (if ((PySem.W.clsIn K M).isSome && PySem.W.typeIn K (.ref M) == some (.type "type")) = true then PySem.W.mroIn K C (.ref M) else none) = some true
    rw [if_pos (by rw [i', t]; rfl), D.mro]
    simp
theorem ClF.kitV (D : ClF K M C nm) : PySem.W.kitOne K (.ref C) (.type "ValueError") = some true := by
  unfold PySem.W.kitOne PySem.W.kitCls
  rw [if_neg (by simp)]
  show (if PySem.W.kitMeta "ValueError" = true then PySem.W.mroIn K C (.type "ValueError") else none) = some true
  rw [if_pos (by decide +kernel), D.mro]
  simp
theorem ClF.exm (D : ClF K M C nm) (i : PySem.W.isClsIn K C = true) : PySem.W.exmOne K (.ref C) (.ref C) = some true := by
  have i' : (PySem.W.clsIn K C).isSome = true := i
  have b : PySem.W.subIn K (.ref C) (.type "BaseException") = some true := (D.mro _).trans (by simp)
  unfold PySem.W.exmOne PySem.W.kitCls
  rw [b, if_pos (by simp)]
  show (if ((PySem.W.clsIn K C).isSome && PySem.W.typeIn K (.ref C) == some (.type "type")) = true then PySem.W.mroIn K C (.ref C) else none) = some true
  rw [if_pos (by rw [i', D.ty]; rfl), D.mro]
  simp
/-- an own error, by its facts -/
theorem MetF.erC (D : MetF K C "__init__" qual st f) (T : ClF K M C nm) (i : PySem.W.isClsIn K C = true) (tI : PySem.W.typeIn K (.ref f) = some (.type "function")) (hm : mg x = some (.ref C)) (hb : BindP "__init__" qual st ps)
    (ok : ∀ fd, Fun K "__init__" qual st f fd → FnOk P w K mg base CX0 1 f fd ps sp) : ErC P w K mg base x C ps sp := by
  obtain ⟨oc, od, sl, kV, dc, pm, an, cd, ct, a, l, c, q, i2, n⟩ := D.ex
  have F := fun_mk (st := st) l c q
  exact ⟨⟨f, _, a, tI, ok _ F, F.binds hb⟩, T.oex, T.xf, hm, T.exm i⟩
end
end Mf
namespace Mf
open PySem L2
theorem paired_memL {α β : Type} {S : α → β → Prop} : ∀ {xs : List α} {ys : List β}, Paired S xs ys → Paired (fun u y => S u y ∧ u ∈ xs) xs ys := by
  intro xs ys r
  induction r with
  | nil => exact .nil
  | cons a _ ih => exact .cons ⟨a, List.mem_cons_self⟩ (paired_same ih fun _ _ z => ⟨z.1, List.mem_cons_of_mem _ z.2⟩)
/-! ### the class Result -/
def flR (d : Addr) : List (Str × V) := putF "_rows" (.ref d) []
theorem flR_get (d : Addr) : (flR d).lookup ("_rows" : Str) = some (.ref d) := by
  unfold flR
  rw [lookup_putF, if_pos rfl]
/-- a list of items -/
def RowL (K : PySem.W.Frag) (H : Hp) (u : Addr) (row : List Itm) : Prop := ∃ ts : List Addr, H u = some (.lst (ts.map V.ref)) ∧ Paired (ItA K H) ts row
/-- a list of lists of items -/
def LisR (K : PySem.W.Frag) (H : Hp) (a : Addr) (us : List Addr) (R : List (List Itm)) : Prop := H a = some (.lst (us.map V.ref)) ∧ Paired (RowL K H) us R
theorem RowL.same {K : PySem.W.Frag} {H H' : Hp} {u : Addr} {row : List Itm} (x : RowL K H u row) (s : Same H H') : RowL K H' u row := let ⟨ts, a, b⟩ := x; ⟨ts, s _ _ a, paired_same b fun _ _ q => q.same s⟩
theorem LisR.same {K : PySem.W.Frag} {H H' : Hp} {a : Addr} {us : List Addr} {R : List (List Itm)} (x : LisR K H a us R) (s : Same H H') : LisR K H' a us R := ⟨s _ _ x.1, paired_same x.2 fun _ _ q => q.same s⟩
theorem RowL.put {K : PySem.W.Frag} {H : Hp} {u q : Addr} {row : List Itm} {xs : List V} {o : HO} (x : RowL K H u row) (h : H q = some (.lst xs)) (n : u ≠ q) : RowL K (upd H q o) u row :=
  let ⟨ts, a, b⟩ := x
  ⟨ts, by rw [upd_ne n]; exact a, paired_same b fun _ _ z => z.sameN (SameN.refl.put h)⟩
theorem LisR.put {K : PySem.W.Frag} {H : Hp} {a q : Addr} {us : List Addr} {R : List (List Itm)} {xs : List V} {o : HO} (x : LisR K H a us R) (h : H q = some (.lst xs)) (n : a ≠ q) (m : ∀ u ∈ us, u ≠ q) : LisR K (upd H q o) a us R :=
  ⟨by rw [upd_ne n]; exact x.1, paired_same (paired_memL x.2) fun u _ z => z.1.put h (m u z.2)⟩
theorem LisR.rows {K : PySem.W.Frag} {H : Hp} {a : Addr} {us : List Addr} {R : List (List Itm)} (x : LisR K H a us R) : RowsQ K H (.ref a) R := by
  obtain ⟨h0, p⟩ := x
  refine ⟨a, us.map V.ref, rfl, .inl (.of h0), ?_⟩
  clear h0
  induction p with
  | nil => exact .nil
  | @cons u r us R z _ ih =>
    obtain ⟨ts, h1, h2⟩ := z
    exact .cons ⟨u, ts, rfl, .inl (.of h1), h2⟩ ih
/-- a Result stands at p -/
structure RsA (K : PySem.W.Frag) (CR : Addr) (H : Hp) (p dx d : Addr) (us : List Addr) (R : List (List Itm)) : Prop where
  o : H p = some (.ins CR dx (flR d))
  l : LisR K H d us R
theorem RsA.same {K : PySem.W.Frag} {CR : Addr} {H H' : Hp} {p dx d : Addr} {us : List Addr} {R : List (List Itm)} (x : RsA K CR H p dx d us R) (s : Same H H') : RsA K CR H' p dx d us R := ⟨s _ _ x.o, x.l.same s⟩
theorem RsA.put {K : PySem.W.Frag} {CR : Addr} {H : Hp} {p dx d q : Addr} {us : List Addr} {R : List (List Itm)} {xs : List V} {o : HO} (x : RsA K CR H p dx d us R) (h : H q = some (.lst xs)) (n : d ≠ q) (m : ∀ u ∈ us, u ≠ q) : RsA K CR (upd H q o) p dx d us R :=
  ⟨by rw [upd_ne (ne_of x.o h (by intro z; cases z))]; exact x.o, x.l.put h n m⟩
structure RsC (K : PySem.W.Frag) (mg : Str → Option Value) (C : Addr) : Prop where
  ins : C8.InsC K C
  nR : NoAttr K C "_rows"
  mgC : mg "Result" = some (.ref C)
section
variable {P : Program} {w : World} {K : PySem.W.Frag} {mg : Str → Option Value} {base : Heap} {CR : Addr}
theorem canon_ne {R : List (List Itm)} {st : Nat} : canonN R st ≠ [] := by
  unfold canonN foundN
  intro e
  have e := List.map_eq_nil_iff.mp e
  have pre : ∀ n (fd : List Nat) at_, fd ≠ [] → growN R (clsE R) n at_ fd ≠ [] := by
    intro n
    induction n with
    | zero => intro fd _ h; exact h
    | succ n ih =>
      intro fd at_ h
      rw [growN_succ]
      cases fd[at_]? with
      | none => exact h
      | some i =>
        refine ih _ _ ?_
        intro z
        have vp : ∀ (is fd : List Nat), fd ≠ [] → visN (clsE R) fd is ≠ [] := by
          intro is
          induction is with
          | nil => intro fd h; exact h
          | cons i is ih2 =>
            intro fd h
            show visN _ (if _ then _ else _) is ≠ []
            refine ih2 _ ?_
            split
            · exact h
            · simp
        exact vp _ _ h z
  exact pre _ [st] 0 (by simp) e
def spRsInit (K : PySem.W.Frag) (CR : Addr) : Sp := fun vs H Q _ => ∃ (p dx : Addr) (v : V) (R : List (List Itm)), vs = [.ref p, v] ∧ H p = some (.ins CR dx []) ∧ RowsQ K H v R ∧ RtR R ∧
  ∀ d us H', RsA K CR H' p dx d us (canonN R 0) → H d = none → (∀ u ∈ us, u ≠ d ∧ H u = none) → (∀ b o, b ≠ p → H b = some o → H' b = some o) → Q .non H'
abbrev sResultInit : Stmt := inClass (top 54) 0
theorem scResultInit : FnScope ["self", "rows"] ["self", "rows"] (defScope sResultInit) := ⟨rfl, rfl, rfl, by decide +kernel, rfl, by decide +kernel, by decide +kernel⟩
theorem ok_rsInit {f : Addr} {fd : FuncData} (F : Fun K "__init__" "Result.__init__" sResultInit f fd) (T : RsC K mg CR) (c_check_rows : Cal P w K mg base CX0 5 "check_rows" ["rows"] (spCheckR K)) (c_numbered_rows : Cal P w K mg base CX0 4 "numbered_rows" ["rows", "start"] (spNumbered K)) : FnOk P w K mg base CX0 6 f fd ["self", "rows"] (spRsInit K CR) := by
  refine F.ok scResultInit (fun vs H Q E h => ?_) (fun cdv A outer s H vs Q E hr h => ?_)
  · obtain ⟨p, dx, v, R, rfl, _⟩ := h
    rfl
  · obtain ⟨p, dx, v, R, rfl, hp, hR, rt, k⟩ := h
    have hr_check_rows := hr
    have hr_numbered_rows : Room 4 _ := hr.mono (by decide : 4 ≤ 5)
    refine ⟨_, (pss_cons (ps_expr (pe_cal c_check_rows hr_check_rows pass0 (pa_cons (pv 1) pa_nil)))
      (pss_one (ps_fld (pv 0) (pe_cal c_numbered_rows hr_numbered_rows pass0 (pa_cons (pv 1) (pa_cons pe_int pa_nil))) rfl))), ?_⟩
    refine ⟨_, rfl, v, R, rfl, hR, rt, fun H1 s1 => ?_⟩
    refine ⟨_, rfl, v, R, 0, rfl, hR.same s1, rt.ok, List.length_pos_iff.mpr rt.ne, fun D H2 us nD hD pr fr s2 => ?_⟩
    refine ⟨_, rfl, p, CR, dx, [], rfl, s2 _ _ (s1 _ _ hp), T.ins.cl, T.nR, (by show 0 < 1000; decide), ?_⟩
    have hp2 := s2 _ _ (s1 _ _ hp)
    have fr0 : ∀ u ∈ us, u ≠ D ∧ H u = none := fun u hu => ⟨(fr u hu).1, s1.free (fr u hu).2⟩
    refine k D us _ ⟨upd_same, ?_, ?_⟩ (s1.free nD) fr0 fun b o nb e => ?_
    · rw [upd_ne (ne_of hD hp2 (by intro z; cases z))]; exact hD
    · refine paired_same (paired_memL pr) fun u row ⟨⟨ts, h1, h2⟩, um⟩ => ⟨ts, ?_, paired_same h2 fun t it z => ?_⟩
      · rw [upd_ne (ne_of h1 hp2 (by intro z; cases z))]; exact h1
      · rcases z with (z | ⟨o, z⟩) | z
        · exact .inl (.inl (by rw [upd_ne (ne_of z hp2 (by intro z; cases z))]; exact z))
        · exact .inl (.inr ⟨o, by rw [upd_ne (ne_of z hp2 (by intro z; cases z))]; exact z⟩)
        · exact .inr z
    · rw [upd_ne nb]
      exact s2 _ _ (s1 _ _ e)
/-- Result(v): a new one -/
theorem make_rs {H : Hp} {v : V} {R : List (List Itm)} {Q : Hp → Prop} {E : XK} {p dx : Addr} (hp : H p = none) (hd : H dx = none) (_ : dx ≠ p) (hR : RowsQ K H v R) (rt : RtR R)
    (k : ∀ d us H', RsA K CR H' p dx d us (canonN R 0) → H d = none → (∀ u ∈ us, u ≠ d ∧ H u = none) → Same H H' → Q H') :
    spRsInit K CR [.ref p, v] (upd (upd H dx (.own p)) p (.ins CR dx [])) (fun x H2 => x = .non ∧ Q H2) E := by
  have s1 : Same H (upd (upd H dx (.own p)) p (.ins CR dx [])) := Same.mut (Same.new hd) hp
  exact ⟨p, dx, v, R, rfl, upd_same, hR.same s1, rt, fun d us H' x nd nu kp => ⟨rfl, k d us H' x (s1.free nd) (fun u hu => ⟨(nu u hu).1, s1.free (nu u hu).2⟩) fun b o e => kp b o (ne_of_none e hp) (s1 _ _ e)⟩⟩
def spRsRows (K : PySem.W.Frag) (CR : Addr) : Sp := fun vs H Q _ => ∃ (p dx d : Addr) (us : List Addr) (R : List (List Itm)), vs = [.ref p] ∧ RsA K CR H p dx d us R ∧ R.length ≤ 4000 ∧
  ∀ D ws H', H D = none → LisR K H' D ws R → (∀ u ∈ ws, u ≠ D ∧ H u = none) → Same H H' → Q (.ref D) H'
abbrev sResultRows : Stmt := inClass (top 54) 3
theorem scResultRows : FnScope ["self", "row"] ["self"] (defScope sResultRows) := ⟨rfl, rfl, rfl, by decide +kernel, rfl, by decide +kernel, by decide +kernel⟩
theorem ok_rsRows {f : Addr} {fd : FuncData} (F : Fun K "rows" "Result.rows" sResultRows f fd) (T : RsC K mg CR) (mList : mg "list" = none) : FnOk P w K mg base CX0 1 f fd ["self"] (spRsRows K CR) := by
  refine F.ok scResultRows (fun vs H Q E h => ?_) (fun cdv A outer s H vs Q E hr h => ?_)
  · obtain ⟨p, dx, d, us, R, rfl, _⟩ := h
    rfl
  · obtain ⟨p, dx, d, us, R, rfl, x, few, k⟩ := h
    refine ⟨_, (pss_one (ps_ret (pe_lc (own := [("row", 1)]) (g := (gName 1)) (tt := tYes) rfl scResultRows.nd (pi_list (fldK K (pv 0))) (blkOk_by (own := [("row", 1)]) (N := ["self", "row"]) (sc := defScope sResultRows) (by decide +kernel)) (fun _ _ _ _ _ => (pg_name (i := 1) scResultRows.nd rfl (by first | exact Or.inl rfl | exact Or.inr rfl))) (fun _ _ _ _ _ => pts_nil) (fun _ _ _ _ _ => (pe_callTy (k_list K) (by rfl) mList (by decide +kernel) (pa_cons (pv 1) pa_nil)))))), ?_⟩
    obtain ⟨hd, pr⟩ := x.l
    have ln := Paired.length pr
    have sz : (5000 : Nat) < sizeLine := by decide
    refine ⟨_, rfl, p, CR, dx, _, _, rfl, x.o, T.ins.cl, T.nR, flR_get d, d, rfl, ⟨_, .of hd⟩, fun D hD => ?_⟩
    refine lc_it walk_list (fun i H' => Same H H' ∧ ∃ ws : List Addr, H' D = some (.lst (ws.map V.ref)) ∧ ws.length = i ∧ (∀ u ∈ ws, u ≠ D ∧ H u = none) ∧ Paired (RowL K H') ws (R.take i)) ⟨Same.new hD, [], upd_same, rfl, by simp, .nil⟩ (fun i H' _ q => .of (q.1 _ _ hd)) ?_ ?_
    · rintro i y _ H1 hi ⟨s1, ws, h1, l1, f1, p1⟩ ⟨rfl, hx⟩
      rw [List.getElem?_map] at hx
      obtain ⟨u, hu, rfl⟩ := Option.map_eq_some_iff.mp hx
      obtain ⟨row, hrow, ts, q1, q2⟩ := paired_get pr hu
      rw [List.length_map] at hi
      refine ⟨rfl, yes_then ?_⟩
      refine ⟨_, rfl, u, _, rfl, .inl (.of (s1 _ _ q1)), fun l nl => ?_⟩
      have s2 := Same.new (o := .lst (ts.map V.ref)) nl
      have h2 := s2 _ _ h1
      have nl0 := s1.free nl
      have lD : l ≠ D := ne_none nl h1
      refine ⟨_, h2, by rw [List.length_map, l1]; omega, (s1.trans s2).mut hD, ws ++ [l], by rw [upd_same, List.map_append]; rfl, by rw [List.length_append, l1]; rfl, fun z hz => ?_, ?_⟩
      · rcases List.mem_append.mp hz with q | q
        · exact f1 z q
        · rw [List.mem_singleton.mp q]; exact ⟨lD, nl0⟩
      · rw [List.take_add_one, hrow]
        refine paired_snoc (paired_same (paired_memL p1) fun z row z' => (z'.1.same s2).put h2 (f1 z z'.2).1) ⟨ts, by rw [upd_ne lD]; exact upd_same, paired_same q2 fun _ _ z => ((z.same s1).same s2).sameN (SameN.refl.put h2)⟩
    · rintro H1 ⟨s1, ws, h1, l1, f1, p1⟩
      rw [List.length_map, ln, List.take_length] at p1
      exact k D ws H1 hD ⟨h1, p1⟩ f1 s1
def spRsLen (K : PySem.W.Frag) (CR : Addr) : Sp := fun vs H Q _ => ∃ (p dx d : Addr) (us : List Addr) (R : List (List Itm)) (row : List Itm), vs = [.ref p] ∧ RsA K CR H p dx d us R ∧ R[0]? = some row ∧ Q (.int (row.length : Nat)) H
abbrev sResultLen : Stmt := inClass (top 54) 8
theorem scResultLen : FnScope ["self"] ["self"] (defScope sResultLen) := ⟨rfl, rfl, rfl, by decide +kernel, rfl, by decide +kernel, by decide +kernel⟩
theorem ok_rsLen {f : Addr} {fd : FuncData} (F : Fun K "__len__" "Result.__len__" sResultLen f fd) (T : RsC K mg CR) (mLen : mg "len" = none) : FnOk P w K mg base CX0 1 f fd ["self"] (spRsLen K CR) := by
  refine F.ok scResultLen (fun vs H Q E h => ?_) (fun cdv A outer s H vs Q E hr h => ?_)
  · obtain ⟨p, dx, d, us, R, row, rfl, _⟩ := h
    rfl
  · obtain ⟨p, dx, d, us, R, row, rfl, x, e0, k⟩ := h
    refine ⟨_, (pss_one (ps_ret (pe_callB (k_len K) (by rfl) mLen (by decide +kernel) (pa_cons (pe_ix (ixl K) (fldK K (pv 0)) pe_int (fun _ _ => rfl)) pa_nil)))), ?_⟩
    obtain ⟨hd, pr⟩ := x.l
    obtain ⟨u, hu, ts, q1, q2⟩ := paired_at pr e0
    have l := Paired.length q2
    refine ⟨_, rfl, p, CR, dx, _, _, rfl, x.o, T.ins.cl, T.nR, flR_get d, d, _, (0 : Nat), _, rfl, rfl, .of hd, atI_nat (by rw [List.getElem?_map, hu]; rfl), u, _, rfl, .inl (.of q1), ?_⟩
    rw [List.length_map, l]
    exact k
/-! ### Result.from_row -/
def spFromRow (K : PySem.W.Frag) (CR : Addr) : Sp := fun vs H Q _ => ∃ (v : V) (R : Rws) (st : Nat), vs = [.ref CR, v, .int st] ∧ RowsQ K H v R ∧ RwOk R ∧ st < R.length ∧
  ∀ p dx d us H', RsA K CR H' p dx d us (canonN R st) → H p = none → H d = none → (∀ u ∈ us, u ≠ d ∧ H u = none) → Same H H' → Q (.ref p) H'
theorem rt_one : RtR [[]] := ⟨by decide, by decide, by decide⟩
abbrev sResultFrom_row : Stmt := inClass (top 54) 2
theorem scResultFrom_row : FnScope ["cls", "rows", "start", "result"] ["cls", "rows", "start"] (defScope sResultFrom_row) := ⟨rfl, rfl, rfl, by decide +kernel, rfl, by decide +kernel, by decide +kernel⟩
theorem ok_from_row {f : Addr} {fd : FuncData} (F : Fun K "from_row" "Result.from_row" sResultFrom_row f fd) (T : RsC K mg CR) (mk : CalC P w K mg base CX0 6 "Result" CR ["self", "rows"] (spRsInit K CR) []) (c_numbered_rows : Cal P w K mg base CX0 4 "numbered_rows" ["rows", "start"] (spNumbered K)) : FnOk P w K mg base CX0 8 f fd ["cls", "rows", "start"] (spFromRow K CR) := by
  refine F.ok scResultFrom_row (fun vs H Q E h => ?_) (fun cdv A outer s H vs Q E hr h => ?_)
  · obtain ⟨v, R, st, rfl, _⟩ := h
    rfl
  · obtain ⟨v, R, st, rfl, hR, ok, hs, k⟩ := h
    have hr_numbered_rows : Room 4 _ := hr.mono (by decide : 4 ≤ 7)
    refine ⟨_, (pss_cons (ps_set (i := 3) scResultFrom_row.nd rfl (by first | exact Or.inl rfl | exact Or.inr rfl) (pe_mkl mk hr pass0 (pv 0) (pa_cons (pe_lst (pa_cons (pe_lst pa_nil) pa_nil)) pa_nil)))
      (pss_cons (ps_fld (pv 3) (pe_cal c_numbered_rows hr_numbered_rows pass0 (pa_cons (pv 1) (pa_cons (pv 2) pa_nil))) rfl)
      (pss_one (ps_ret (pv 3))))), ?_⟩
    refine ⟨_, rfl, rfl, (by show 0 ≤ sizeLine; decide), fun u nu => ⟨(by show 1 ≤ sizeLine; decide), fun a na => ?_⟩⟩
    intro p dx np ndx nex
    have na' : (upd H u (.lst [])) a = none := na
    have s1 := (Same.new (o := .lst []) nu).trans (Same.new (o := .lst [.ref u]) na)
    have hu : (upd (upd H u (.lst [])) a (.lst [.ref u])) u = some (.lst []) := Same.new na _ _ upd_same
    refine make_rs np ndx nex (R := [[]]) ⟨a, [.ref u], rfl, .inl (.of upd_same), .cons ⟨u, [], rfl, .inl (.of hu), .nil⟩ .nil⟩ rt_one fun d0 us0 H1 A1 nd0 nu0 s2 => ?_
    have s12 := s1.trans s2
    refine ⟨_, rfl, _, rfl, v, R, st, rfl, hR.same s12, ok, hs, fun D H2 us nD hD pr fr s3 => ?_⟩
    have hp2 := s3 _ _ A1.o
    refine ⟨_, rfl, p, CR, dx, _, rfl, hp2, T.ins.cl, T.nR, (by show 1 < 1000; decide), ?_⟩
    have np0 : H p = none := s1.free np
    refine ⟨_, rfl, k p dx D us _ ⟨upd_same, ?_, ?_⟩ np0 (s12.free nD) (fun u hu => ⟨(fr u hu).1, s12.free (fr u hu).2⟩) ((s12.trans s3).mut np0)⟩
    · rw [upd_ne (ne_of hD hp2 (by intro z; cases z))]; exact hD
    · refine paired_same (paired_memL pr) fun u row ⟨⟨ts, h1, h2⟩, um⟩ => ⟨ts, ?_, paired_same h2 fun t it z => ?_⟩
      · rw [upd_ne (ne_of h1 hp2 (by intro z; cases z))]; exact h1
      · rcases z with (z | ⟨o, z⟩) | z
        · exact .inl (.inl (by rw [upd_ne (ne_of z hp2 (by intro z; cases z))]; exact z))
        · exact .inl (.inr ⟨o, by rw [upd_ne (ne_of z hp2 (by intro z; cases z))]; exact z⟩)
        · exact .inr z
end
end Mf
/-! for i, x in enumerate(xs), xs a list or a tuple -/
namespace Mf
open PySem PySem.Spec PyProof.Rows L2
set_option maxHeartbeats 1000000 in
theorem meets_enum1 {v : Value} {o : Obj} {Hh : Heap → Prop} (B : Begins v o Hh) : Meets (Builtin.«enumerate.__new__» ⟨[.type "enumerate", v], []⟩) (fun _ R s => Hh s.heap ∧
    R (.ok (.ret (.ref (s.heap.push o).objs.size))) { s with heap := (s.heap.push o).push { cls := .type "enumerate", data := .fields #[.none, .bool false, .ref s.heap.objs.size, rawInt 0, .none, .none] } }) := by
  refine .of_wp fun prog w A R s => ?_
  rcases s with ⟨hp, g, d, tk, os⟩
  rintro ⟨h1, h⟩
  have sub := sub_enumerate
  have begun : ∀ {A' : Around} {E : Value → Shared → Prop} {Q : Value → Shared → Prop}, Q (.ref hp.objs.size) ⟨hp.push o, g, d, tk, os⟩ → wpAny (model prog w) A' (pyIter v) Q E ⟨hp, g, d, tk, os⟩ := fun k => B.iter prog w _ _ ⟨hp, g, d, tk, os⟩ _ h1 k
  wp_walk using begun
  refine wpAny_stack_any fun st => wpAny_pure ?_
  split
  · rename_i c _ _ _ _ _
    cases c == Value.type "enumerate" <;> (wp_walk using begun; exact ⟨_, rfl, h⟩)
  · wp_walk using begun; exact ⟨_, rfl, h⟩
theorem enum1_begins {prog : Program} {w : World} {A : Around} {E : Value → Shared → Prop} {s : Shared} {v : Value} {o : Obj} {Hh : Heap → Prop} {Q : Value → Shared → Prop} (B : Begins v o Hh) (h1 : Hh s.heap)
    (h : ∀ h', IsEnum h' (s.heap.objs.size + 1) s.heap.objs.size 0 .none → h'.get? s.heap.objs.size = some o → (∀ b q, s.heap.get? b = some q → h'.get? b = some q) → Q (.ref (s.heap.objs.size + 1)) { s with heap := h' }) :
    wpAny (model prog w) A (call (.type "enumerate") [v]) Q E s := by
  have sz : (s.heap.push o).objs.size = s.heap.objs.size + 1 := Heap.size_push ..
  have en : IsEnum ((s.heap.push o).push { cls := .type "enumerate", data := .fields #[.none, .bool false, .ref s.heap.objs.size, rawInt 0, .none, .none] }) (s.heap.push o).objs.size s.heap.objs.size 0 .none := Heap.get?_push_size _ rfl
  refine callType_new F.called_enumerate (by decide) (F.typeCall_enumerate_1 _) (F.newCall_enumerate_1 _) (fun obj => F.args_object_init_2 obj _) F.entry_enumerate_new (meets_enum1 B) ⟨h1, ?_⟩
  rw [sz] at en
  show _ ∧ _
  rw [sz]
  exact ⟨⟨_, en, rfl⟩, h _ en (Heap.get?_push_of_some _ (Heap.get?_push_size _ B.free)) fun b q e => Heap.get?_push_of_some _ (Heap.get?_push_of_some _ e)⟩
theorem pi_enumA {X : Cx} {e : Expr} {ta : TA} {p pos tpos : Pos} {elts : List Expr} {kk : Nat} (hg : Gl X "enumerate") (hm : X.mg "enumerate" = none) (ha : PA X [e] ta)
    (hs : starEach [e] X.env = [(false, eval e X.env)] := by rfl) : PI X (.Tuple elts kk tpos) (.Call (.Name "enumerate" p) [e] [] pos) (iEnumS X.K 0 ta) := by
  refine ⟨fun pins s σ H R I h => Call_ (ld_blt I hg hm PyProof.Rows.boot_enumerate (PyProof.Rows.callWith_type1 (thn (ha.run pos pins s σ H _ I h) ?_) hs rfl))⟩
  rintro us s1 ⟨vs, H1, I1, r1, a, xs, rfl, q1⟩
  rw [Vals.ref1 r1]
  have fresh : ∀ b ∈ [s1.heap.objs.size + 1, s1.heap.objs.size], FpOk X pins H1 b := fun b hb => by
    simp only [List.mem_cons, List.not_mem_nil, or_false] at hb
    rcases hb with rfl | rfl
    · exact I1.fpOk (Nat.le_succ _) (I1.hok.fresh (Nat.le_succ _))
    · exact I1.fpOk (Nat.le_refl _) (I1.hok.fresh (Nat.le_refl _))
  rcases q1 with ⟨hq, q⟩ | ⟨hq, q⟩
  · obtain ⟨its, rv, p', hz⟩ := I1.list hq
    refine enum1_begins (begins_list a its.toArray) p'.isList fun h' he ho hk => wpAny_pyIter_enum he ?_
    exact ⟨_, [s1.heap.objs.size + 1, s1.heap.objs.size], _, _, H1, rfl, I1.kept (t' := s1.toks) hk, turn_fromL 0 _ _ a, ⟨⟨_, by simpa using he⟩, ⟨_, ho, rfl, rfl⟩, Nat.succ_ne_self _⟩, fresh, q⟩
  · obtain ⟨its, rv, p', hz⟩ := I1.tuple hq
    refine enum1_begins (begins_tuple a its.toArray) (isTuple_of p') fun h' he ho hk => wpAny_pyIter_enum he ?_
    exact ⟨_, [s1.heap.objs.size + 1, s1.heap.objs.size], _, _, H1, rfl, I1.kept (t' := s1.toks) hk, turn_fromT 0 _ _ a, ⟨⟨_, by simpa using he⟩, ⟨_, ho, rfl, rfl⟩, Nat.succ_ne_self _⟩, fresh, q⟩
end Mf
namespace Mf
open PySem L2
/-! ### items and rows -/
def RowA (K : PySem.W.Frag) (H : Hp) (b : Addr) (row : List Itm) : Prop := ∃ ts : List Addr, H b = some (.lst (ts.map V.ref)) ∧ Paired (ItA K H) ts row
def RowsA (K : PySem.W.Frag) (H : Hp) (a : Addr) (rws : List (List Itm)) : Prop := ∃ bs : List Addr, H a = some (.lst (bs.map V.ref)) ∧ Paired (RowA K H) bs rws
section
variable {P : Program} {w : World} {K : PySem.W.Frag} {mg : Str → Option Value} {base : Heap} {Cp C : Addr}
theorem RowA.same {H H' : Hp} {b : Addr} {row : List Itm} (x : RowA K H b row) (s : Same H H') : RowA K H' b row := let ⟨ts, h, p⟩ := x; ⟨ts, s _ _ h, paired_same p fun _ _ q => q.same s⟩
theorem RowsA.same {H H' : Hp} {a : Addr} {rws : List (List Itm)} (x : RowsA K H a rws) (s : Same H H') : RowsA K H' a rws := let ⟨bs, h, p⟩ := x; ⟨bs, s _ _ h, paired_same p fun _ _ q => q.same s⟩
theorem reads_mem {ss : List Step} {s : Step} (h : s ∈ ss) (e : s.1 = "read") : s.2 ∈ readsIn ss := List.mem_map.mpr ⟨s, List.mem_filter.mpr ⟨h, decide_eq_true e⟩, rfl⟩
theorem calls_of {k : Str} (h : k ∈ kinds) (e1 : k ≠ "read") (e2 : k ≠ "say") : k ∈ calling := by
  unfold kinds at h
  simp only [List.mem_cons, List.not_mem_nil, or_false] at h
  rcases h with h | h | h | h
  · exact absurd h e1
  · exact absurd h e2
  · rw [h]; decide +kernel
  · rw [h]; decide +kernel
/-- a dict of numbers, one of items -/
def NumD (H : Hp) (d : Addr) (ps : List Str) (val : Str → Int) : Prop := ∃ kvs, H d = some (.dK kvs) ∧ ∀ z ∈ ps, valV kvs (Sum.inr z) = some (.int (val z))
def NodD (K : PySem.W.Frag) (H : Hp) (d : Addr) (ns : List Str) (nod : Str → Itm) : Prop := ∃ kvs, H d = some (.dK kvs) ∧ ∀ z ∈ ns, ∃ t, valV kvs (Sum.inr z) = some (.ref t) ∧ ItA K H t (nod z)
theorem NumD.same {H H' : Hp} {d : Addr} {ps : List Str} {val : Str → Int} (x : NumD H d ps val) (s : Same H H') : NumD H' d ps val := let ⟨k, h, q⟩ := x; ⟨k, s _ _ h, q⟩
theorem NodD.same {H H' : Hp} {d : Addr} {ns : List Str} {nod : Str → Itm} (x : NodD K H d ns nod) (s : Same H H') : NodD K H' d ns nod := let ⟨k, h, q⟩ := x; ⟨k, s _ _ h, fun z hz => let ⟨t, a, b⟩ := q z hz; ⟨t, a, b.same s⟩⟩
/-- the item that a step gives -/
def itemOf (val : Str → Int) (nod : Str → Itm) (s : Step) : Itm := if s.1 = ("read" : Str) then .num (val s.2) else if s.1 = ("say" : Str) then .wd s.2 else nod s.2
def spItem (K : PySem.W.Frag) : Sp := fun vs H Q _ => ∃ (s : Step) (dv dn : Addr) (ps ns : List Str) (val : Str → Int) (nod : Str → Itm), vs = [.str s.1, .str s.2, .ref dv, .ref dn] ∧ NumD H dv ps val ∧ NodD K H dn ns nod ∧ (s.1 = "read" → s.2 ∈ ps) ∧ (s.1 ≠ "read" → s.1 ≠ "say" → s.2 ∈ ns) ∧
  ∀ t H', ItA K H' t (itemOf val nod s) → Same H H' → Q (.ref t) H'
abbrev sItem : Stmt := top 60
theorem scItem : FnScope ["kind", "word", "values", "nodes"] ["kind", "word", "values", "nodes"] (defScope sItem) := ⟨rfl, rfl, rfl, by decide +kernel, rfl, by decide +kernel, by decide +kernel⟩
theorem ok_item {f : Addr} {fd : FuncData} (F : Fun K "_item" "_item" sItem f fd) : FnOk P w K mg base CX0 1 f fd ["kind", "word", "values", "nodes"] (spItem K) := by
  refine F.ok scItem (fun vs H Q E h => ?_) (fun cdv A outer s H vs Q E hr h => ?_)
  · obtain ⟨s, dv, dn, ps, ns, val, nod, rfl, _⟩ := h
    rfl
  · obtain ⟨st, dv, dn, ps, ns, val, nod, rfl, ⟨kv, hv, nv⟩, ⟨kn, hn, nn⟩, hR, hC, k⟩ := h
    have hu : (A.deeper (PyProof.Rows.envOfC "_item" (defScope sItem) s.heap.objs.size f cdv)).units + 1 < cLine := by have := hr.units; omega
    refine ⟨_, (pss_cons (ps_if (pt_cmpR op_eq (pv 0) pe_str (nomark _))
        (pss_one (ps_ret (pe_tup (pa_cons pe_str (pa_cons (pe_dget hu (pv 2) (pv 1) (fun _ _ => rfl)) pa_nil))))) pss_nil)
      (pss_cons (ps_if (pt_cmpR op_eq (pv 0) pe_str (nomark _))
        (pss_one (ps_ret (pe_tup (pa_cons pe_str (pa_cons (pv 1) pa_nil))))) pss_nil)
      (pss_one (ps_ret (pe_dget hu (pv 3) (pv 1) (fun _ _ => rfl)))))), ?_⟩
    refine ⟨_, rfl, rfl, _, rfl, ite2 (fun e => ?_) fun e => ?_⟩
    · have e : st.1 = "read" := V.str.inj (of_decide_eq_true e)
      refine ⟨_, rfl, _, rfl, dv, _, rfl, .inl ⟨_, Sum.inr st.2, .inl hv, rfl, (nv _ (hR e)).symm⟩, (by show 2 ≤ sizeLine; decide), fun t ht => k t _ ?_ (Same.new ht)⟩
      unfold itemOf
      rw [if_pos e]
      exact .of upd_same
    · have e : st.1 ≠ "read" := fun h => e (by rw [h]; exact decide_eq_true rfl)
      refine ⟨_, rfl, rfl, _, rfl, ite2 (fun e2 => ?_) fun e2 => ?_⟩
      · have e2 : st.1 = "say" := V.str.inj (of_decide_eq_true e2)
        refine ⟨_, rfl, (by show 2 ≤ sizeLine; decide), fun t ht => k t _ ?_ (Same.new ht)⟩
        unfold itemOf
        rw [if_neg e, if_pos e2]
        exact .of upd_same
      · have e2 : st.1 ≠ "say" := fun h => e2 (by rw [h]; exact decide_eq_true rfl)
        obtain ⟨t, h1, h2⟩ := nn _ (hC e e2)
        refine ⟨_, rfl, _, rfl, dn, _, rfl, .inl ⟨_, Sum.inr st.2, .inl hn, rfl, h1.symm⟩, k t H ?_ (Same.refl H)⟩
        unfold itemOf
        rw [if_neg e, if_neg e2]
        exact h2
/-- the outer comprehension's names -/
def blkSc1 : Scope := { kind := .function, names := [(".0", .local), ("name", .local), ("nodes", .cell), ("program", .cell), ("values", .cell)], isGenerator := false, isCoroutine := false }
def spRowsAll (K : PySem.W.Frag) (Cp : Addr) : Sp := fun vs H Q _ => ∃ (p dv dn : Addr) (rs : List Pr) (val : Str → Int) (nod : Str → Itm), vs = [.ref p, .ref dv, .ref dn] ∧ Prg K Cp H p rs ∧ NumD H dv (readsOf rs) val ∧ NodD K H dn (rs.map Pr.name) nod ∧
  ∀ a H', H a = none → RowsA K H' a (rs.map fun r => r.ss.map (itemOf val nod)) → Same H H' → Q (.ref a) H'
abbrev sRows_of_all : Stmt := top 59
theorem scRows_of_all : FnScope ["program", "values", "nodes", "name", "kind", "word"] ["program", "values", "nodes"] (defScope sRows_of_all) := ⟨rfl, rfl, rfl, by decide +kernel, rfl, by decide +kernel, by decide +kernel⟩
theorem ok_rowsAll {f : Addr} {fd : FuncData} (F : Fun K "rows_of_all" "rows_of_all" sRows_of_all f fd) (T : PgC K mg Cp) (O : PgOps P w K mg base Cp) (c__item : Cal P w K mg base CX0 1 "_item" ["kind", "word", "values", "nodes"] (spItem K)) : FnOk P w K mg base CX0 3 f fd ["program", "values", "nodes"] (spRowsAll K Cp) := by
  refine F.ok scRows_of_all (fun vs H Q E h => ?_) (fun cdv A outer s H vs Q E hr h => ?_)
  · obtain ⟨p, dv, dn, rs, val, nod, rfl, _⟩ := h
    rfl
  · obtain ⟨p, dv, dn, rs, val, nod, rfl, hP, hV, hN, k⟩ := h
    have hr1 : Room 1 _ := hr.mono (by decide : 1 ≤ 2)
    have hr__item := hr1
    refine ⟨_, (pss_one (ps_ret (pe_lc (own := [("name", 3)]) (g := (gName 3)) (tt := tYes) rfl scRows_of_all.nd (pi_tup (fldK K (pv 0))) (blkOk_by (own := [("name", 3)]) (N := ["program", "values", "nodes", "name", "kind", "word"]) (sc := defScope sRows_of_all) (by decide +kernel)) (fun _ _ _ _ _ => (pg_name (i := 3) scRows_of_all.nd rfl (by first | exact Or.inl rfl | exact Or.inr rfl))) (fun _ _ _ _ _ => pts_nil) (fun _ _ _ _ _ => (pe_lc (own := [("kind", 4), ("word", 5)]) (g := (gTup K 2 (gCons (gName 4) (gCons (gName 5) gNil)))) (tt := tYes) rfl scRows_of_all.nd (piS K (om_get O.get hr pass0 (pv 0) (pv 3))) (blkOk_by (own := [("kind", 4), ("word", 5)]) (N := ["program", "values", "nodes", "name", "kind", "word"]) (sc := blkSc1) (by decide +kernel)) (fun _ _ _ _ _ => (pg_tup rfl (pgs_cons (pg_name (i := 4) scRows_of_all.nd rfl (by first | exact Or.inl rfl | exact Or.inr rfl)) (pgs_cons (pg_name (i := 5) scRows_of_all.nd rfl (by first | exact Or.inl rfl | exact Or.inr rfl)) pgs_nil)))) (fun _ _ _ _ _ => pts_nil) (fun _ _ _ _ _ => (pe_cal c__item hr__item pass0 (pa_cons (pv 4) (pa_cons (pv 5) (pa_cons (pv 1) (pa_cons (pv 2) pa_nil))))))))))), ?_⟩
    have hP0 := hP
    obtain ⟨dx, d, n, q, us, pl, x, R, up, m⟩ := hP
    have few := R.few
    refine ⟨_, rfl, p, Cp, dx, _, _, rfl, x.o, T.ins.cl, T.nN, flP_n d n q, n, rfl, ⟨_, x.n.sq⟩, fun D hD => ?_⟩
    refine lc_it walk_tup (fun i H' => ∃ bs : List Addr, Same H H' ∧ H' D = some (.lst (bs.map V.ref)) ∧ Paired (RowA K H') bs ((rs.take i).map fun r => r.ss.map (itemOf val nod)) ∧ bs.length = i ∧ ∀ b ∈ bs, b ≠ D)
      ⟨[], Same.new hD, upd_same, .nil, rfl, by simp⟩ (fun i H' _ q => (x.n.same q.choose_spec.1).sq) ?_ ?_
    · rintro i y _ H1 hi ⟨bs, s1, h1, rw1, lb, nb⟩ ⟨rfl, hx⟩
      rw [List.getElem?_map, List.getElem?_map] at hx
      obtain ⟨z, hz, rfl⟩ := Option.map_eq_some_iff.mp hx
      obtain ⟨r, hr', rfl⟩ := Option.map_eq_some_iff.mp hz
      have rm := List.mem_of_getElem? hr'
      have hP1 := hP0.same s1
      rw [List.length_map, List.length_map] at hi
      refine ⟨rfl, yes_then ?_⟩
      have ip : H1 p = _ := s1 _ _ x.o
      refine ⟨_, rfl, _, rfl, p, dx, _, rfl, ip, p, rs, r, rfl, hP1, rm, fun u sq st => ?_⟩
      refine ⟨u, _, rfl, .inr sq, fun J G wk hG D2 hD2 => ?_⟩
      have lt : r.ts.length = r.ss.length := Paired.length st
      have ls := bodyB_len (R.ri r rm).2.1
      refine lc_it wk (fun j H' => ∃ ts : List Addr, Same H1 H' ∧ H' D2 = some (.lst (ts.map V.ref)) ∧ Paired (ItA K H') ts ((r.ss.take j).map (itemOf val nod)) ∧ ts.length = j) ⟨[], Same.new hD2, upd_same, .nil, rfl⟩ (fun j H' _ q => hG _ q.choose_spec.1) ?_ ?_
      · rintro j y _ H2 hj ⟨ts, s2, h2, it2, lts⟩ ⟨rfl, hx⟩
        rw [List.getElem?_map] at hx
        obtain ⟨t, ht, rfl⟩ := Option.map_eq_some_iff.mp hx
        obtain ⟨sp, hsp, hts⟩ := st.get ht
        rw [List.length_map, lt] at hj
        have tk : r.ss.take (j + 1) = r.ss.take j ++ [sp] := by rw [List.take_add_one, hsp]; rfl
        have sm := List.mem_of_getElem? hsp
        have s12 := s1.trans s2
        refine ⟨t, _, rfl, .of (s2 _ _ hts), rfl, _, _, rfl, _, _, rfl, rfl, rfl, yes_then ?_⟩
        refine ⟨_, rfl, _, rfl, _, rfl, _, rfl, sp, dv, dn, readsOf rs, rs.map Pr.name, val, nod, rfl, hV.same s12, hN.same s12, fun e => ?_, fun e1 e2 => ?_, fun t2 H3 it s3 => ?_⟩
        · exact List.mem_flatten.mpr ⟨_, List.mem_map.mpr ⟨r, rm, rfl⟩, reads_mem sm e⟩
        · exact R.ca r rm sp sm (calls_of (stepB_kind (bodyB_st (R.ri r rm).2.1 sp sm)) e1 e2)
        · have h3 := s3 _ _ h2
          have pn : SameN H3 (upd H3 D2 (.lst (ts.map V.ref ++ [.ref t2]))) := SameN.refl.put h3
          refine ⟨_, h3, ?_, ts ++ [t2], (s2.trans s3).mut hD2, by rw [upd_same, List.map_append]; rfl, ?_, by rw [List.length_append, lts]; rfl⟩
          · rw [List.length_map, lts]; exact Nat.lt_of_lt_of_le (by omega : j < 13) (by decide)
          · rw [tk, List.map_append]
            exact paired_snoc (paired_same it2 fun _ _ q => (q.same s3).sameN pn) (it.sameN pn)
      · rintro H2 ⟨ts, s2, h2, it2, lts⟩
        rw [List.length_map, lt, List.take_length] at it2
        have h12 := s2 _ _ h1
        have DD : D2 ≠ D := ne_none hD2 h1
        have pn : SameN H2 (upd H2 D (.lst (bs.map V.ref ++ [.ref D2]))) := SameN.refl.put h12
        refine ⟨_, h12, ?_, bs ++ [D2], (s1.trans s2).mut hD, by rw [upd_same, List.map_append]; rfl, ?_, by rw [List.length_append, lb]; rfl, fun b hb => ?_⟩
        · rw [List.length_map, lb]; exact Nat.lt_of_lt_of_le (by omega : i < 17) (by decide)
        · rw [List.take_add_one, hr', Option.toList_some, List.map_append]
          refine paired_snoc (paired_same (paired_memL rw1) fun b row q => ?_) ?_
          · obtain ⟨ts', e1, e2⟩ := q.1
            exact ⟨ts', by rw [upd_ne (nb b q.2)]; exact s2 _ _ e1, paired_same e2 fun _ _ z => (z.same s2).sameN pn⟩
          · exact ⟨ts, by rw [upd_ne DD]; exact h2, paired_same it2 fun _ _ z => z.sameN pn⟩
        · rcases List.mem_append.mp hb with hb | hb
          · exact nb b hb
          · rw [List.mem_singleton.mp hb]; exact DD
    · rintro H1 ⟨bs, s1, h1, rw1, lb, nb⟩
      rw [List.length_map, List.length_map, List.take_length] at rw1
      exact k D H1 hD ⟨bs, h1, rw1⟩ s1
end
end Mf
namespace Mf
open PySem L2
theorem putK_le {κ : Type} [DecidableEq κ] (c : List (κ × V)) (k : κ) (x : V) : (putK c k x).length ≤ c.length + 1 := by
  unfold putK
  split
  · rw [List.length_map]; exact Nat.le_succ _
  · rw [List.length_append]; exact Nat.le_refl _
def fstIx (z : Str) : List Str → Nat
  | [] => 0
  | y :: ys => if y = z then 0 else fstIx z ys + 1
theorem fstIx_at {z : Str} : ∀ {ns : List Str}, z ∈ ns → ns[fstIx z ns]? = some z
  | [], h => nomatch h
  | y :: ys, h => by
    unfold fstIx
    by_cases e : y = z
    · rw [if_pos e, e]; rfl
    · rw [if_neg e]
      have h2 : z ∈ ys := by
        rcases List.mem_cons.mp h with q | q
        · exact absurd q.symm e
        · exact q
      exact fstIx_at h2
theorem fstIx_no {z : Str} : ∀ {ns : List Str} (m : Nat), m < fstIx z ns → ns[m]? ≠ some z
  | [], m, h => by unfold fstIx at h; omega
  | y :: ys, m, h => by
    unfold fstIx at h
    by_cases e : y = z
    · rw [if_pos e] at h; omega
    · rw [if_neg e] at h
      cases m with
      | zero => intro q; cases q; exact e rfl
      | succ m => exact fstIx_no m (by omega)
theorem nd_at {ns : List Str} (nd : ns.Nodup) {i j : Nat} {z : Str} (hi : ns[i]? = some z) (hj : ns[j]? = some z) : i = j := by
  obtain ⟨li, ei⟩ := List.getElem?_eq_some_iff.mp hi
  obtain ⟨lj, ej⟩ := List.getElem?_eq_some_iff.mp hj
  have h := List.pairwise_iff_getElem.mp nd
  rcases Nat.lt_trichotomy i j with q | q | q
  · exact absurd (ei.trans ej.symm) (h i j li lj q)
  · exact q
  · exact absurd (ej.trans ei.symm) (h j i lj li q)
theorem fstIx_nd {z : Str} {ns : List Str} (nd : ns.Nodup) {i : Nat} (h : ns[i]? = some z) : fstIx z ns = i := by
  have m := List.mem_of_getElem? h
  have a := fstIx_at m
  rcases Nat.lt_trichotomy (fstIx z ns) i with q | q | q
  · exact nd_at nd a h
  · exact q
  · exact absurd h (fstIx_no _ q)

theorem reads_len {rs : List Pr} (R : RightP rs) : (readsOf rs).length ≤ 200 := by
  unfold readsOf
  have go : ∀ (l : List Pr), (∀ r ∈ l, r.ss.length ≤ 12) → ((l.map fun r => readsIn r.ss).flatten).length ≤ l.length * 12 := by
    intro l
    induction l with
    | nil => intro _; exact Nat.zero_le _
    | cons r l ih =>
      intro h
      rw [List.map_cons, List.flatten_cons, List.length_append, List.length_cons]
      have a := ih fun r hr => h r (List.mem_cons_of_mem _ hr)
      have b : (readsIn r.ss).length ≤ 12 := by
        unfold readsIn
        rw [List.length_map]
        exact Nat.le_trans (List.length_filter_le _ _) (h r List.mem_cons_self)
      omega
  have a := go rs fun r hr => bodyB_len (R.ri r hr).2.1
  have f := R.few
  omega
theorem reads_ok {rs : List Pr} (R : RightP rs) {z : Str} (h : z ∈ readsOf rs) : PyData.strOk z = true := by
  obtain ⟨l, hl, hz⟩ := List.mem_flatten.mp h
  obtain ⟨r, hr, rfl⟩ := List.mem_map.mp hl
  obtain ⟨s, hs, rfl⟩ := List.mem_map.mp hz
  exact (stepB_name (bodyB_st (R.ri r hr).2.1 s (List.mem_filter.mp hs).1)).ok
theorem frz_tup {K : PySem.W.Frag} {H : Hp} {d u : Addr} {od : Obj} {kvs : List (Key × V)} {o : HO} {xs : List V} (h : H d = some (.frz od (.dK kvs))) (q : SqT K H u xs) : SqT K (upd H d o) u xs := by
  rcases q with (q | ⟨y, q⟩) | q
  · exact .inl (.inl (by rw [upd_ne (ne_of q h (by intro z; cases z))]; exact q))
  · exact .inl (.inr ⟨y, by rw [upd_ne (ne_of q h (by intro z; cases z))]; exact q⟩)
  · exact .inr q
section
variable {P : Program} {w : World} {K : PySem.W.Frag} {mg : Str → Option Value} {base : Heap} {Cp C : Addr}
/-! ### check_place, checked_places, checked_numbers -/
abbrev sCheck_place : Stmt := top 14
theorem scCheck_place : FnScope ["program", "place"] ["program", "place"] (defScope sCheck_place) := ⟨rfl, rfl, rfl, by decide +kernel, rfl, by decide +kernel, by decide +kernel⟩
theorem ok_checkpl {f : Addr} {fd : FuncData} (F : Fun K "check_place" "check_place" sCheck_place f fd) (T : PgC K mg Cp) : FnOk P w K mg base CX0 1 f fd ["program", "place"] (spCheckPl K Cp) := by
  refine F.ok scCheck_place (fun vs H Q E h => ?_) (fun cdv A outer s H vs Q E hr h => ?_)
  · obtain ⟨p, rs, z, rfl, _⟩ := h
    rfl
  · obtain ⟨p, rs, z, rfl, ⟨dx, d, n, q, us, pl, x, R, up, m⟩, hz, k⟩ := h
    refine ⟨_, (pss_one (ps_if (pt_cmpR (nin K) (pv 1) (fldK K (pv 0)) (by rfl))
        (pss_one ps_never) pss_nil)), ?_⟩
    refine ⟨_, rfl, _, rfl, p, Cp, dx, _, _, rfl, x.o, T.ins.cl, T.nQ, flP_q d n q, q, _, rfl, .inr (.of x.q), rfl, flat_strs _, _, rfl, ?_⟩
    show if (!inV (.str z) (pl.map V.str)) = true then _ else _
    rw [inV_str, decide_eq_true ((m z).mpr hz)]
    exact iteF k
def spCheckedPl (K : PySem.W.Frag) (Cp C : Addr) : Sp := fun vs H Q _ => ∃ (p : Addr) (rs : List Pr) (x : V) (xs : List Str), vs = [.ref p, x] ∧ Prg K Cp H p rs ∧ ArgS K C H x xs ∧ xs.length < 4000 ∧ (∀ z ∈ xs, z ∈ readsOf rs) ∧
  ∀ q ms H', NSet C H' q ms → (∀ z, z ∈ ms ↔ z ∈ xs) → Same H H' → Q (.ref q) H'
abbrev sChecked_places : Stmt := top 15
theorem scChecked_places : FnScope ["program", "places", "known", "place"] ["program", "places"] (defScope sChecked_places) := ⟨rfl, rfl, rfl, by decide +kernel, rfl, by decide +kernel, by decide +kernel⟩
theorem ok_checkedpl {f : Addr} {fd : FuncData} (F : Fun K "checked_places" "checked_places" sChecked_places f fd) (T : NsC K mg C) (mk1 : CalN P w K mg base C []) (c_check_place : Cal P w K mg base CX0 1 "check_place" ["program", "place"] (spCheckPl K Cp)) : FnOk P w K mg base CX0 3 f fd ["program", "places"] (spCheckedPl K Cp C) := by
  refine F.ok scChecked_places (fun vs H Q E h => ?_) (fun cdv A outer s H vs Q E hr h => ?_)
  · obtain ⟨p, rs, x, xs, rfl, _⟩ := h
    rfl
  · obtain ⟨p, rs, x, xs, rfl, hP, ax, few, hin, k⟩ := h
    have hr_check_place : Room 1 _ := hr.mono (by decide : 1 ≤ 2)
    refine ⟨_, (pss_cons (ps_set (i := 2) scChecked_places.nd rfl (by first | exact Or.inl rfl | exact Or.inr rfl) (pe_mkc mk1 hr pass0 (pa_cons (pv 1) pa_nil)))
      (pss_cons (ps_for PassesOwn.never rfl (pi_tup (fldK K (pv 2))) (pg_name (i := 3) scChecked_places.nd rfl (by first | exact Or.inl rfl | exact Or.inr rfl))
        (pss_one (ps_expr (pe_cal c_check_place hr_check_place pass0 (pa_cons (pv 0) (pa_cons (pv 3) pa_nil))))))
      (pss_one (ps_ret (pv 2))))), ?_⟩
    have R := (show RightP rs from let ⟨_, _, _, _, _, _, _, R, _⟩ := hP; R)
    refine ⟨_, rfl, ?_⟩
    intro q dx nq nd _
    refine ⟨q, dx, x, xs, rfl, upd_same, ax.same (ns_grow nq nd), few, fun t ms H1 up m h1 h2 kp => ⟨rfl, ?_⟩⟩
    obtain ⟨N, s1⟩ := ns_after few (fun z hz => reads_ok R (hin z hz)) nq nd up m h1 h2 kp
    refine ⟨_, rfl, q, C, dx, _, _, rfl, h1, T.ins.cl, T.nM, flM_get t, t, rfl, ⟨_, .of h2⟩, ?_⟩
    refine for_it walk_tup (fun i σ H' => ∃ v3 : Option V, σ = [some (.ref p), some x, some (.ref q), v3] ∧ H' = H1) ⟨none, rfl, rfl⟩ (fun i σ H' _ z => by obtain ⟨_, _, rfl⟩ := z; exact .of h2) ?_ ?_
    · rintro i x σ _ H2 hi ⟨v3, rfl, rfl⟩ ⟨rfl, hx⟩
      rw [List.getElem?_map] at hx
      obtain ⟨z, hz, rfl⟩ := Option.map_eq_some_iff.mp hx
      exact ⟨_, rfl, _, rfl, p, rs, z, rfl, hP.same s1, hin z ((m z).mp (List.mem_of_getElem? hz)), _, rfl, rfl⟩
    · rintro σ _ ⟨v3, rfl, rfl⟩
      exact ⟨_, rfl, k q ms _ N m s1⟩
/-- what is passed as numbers: None, or a dict -/
def NumA (H : Hp) (v : V) (ps : List Str) (val : Str → Int) : Prop := (v = .non ∧ ∀ z, val z = 0) ∨ ∃ (d : Addr) (kvs : List (Key × V)) (ks : List Str), v = .ref d ∧ H d = some (.dK kvs) ∧ kvs.map (·.1) = ks.map Sum.inr ∧ (∀ z ∈ ks, z ∈ ps) ∧ ks.length < 4000 ∧ ∀ z, valV kvs (Sum.inr z) = some (.int (val z)) ∨ (valV kvs (Sum.inr z) = none ∧ val z = 0)
theorem NumA.same {H H' : Hp} {v : V} {ps : List Str} {val : Str → Int} (x : NumA H v ps val) (s : Same H H') : NumA H' v ps val := by
  rcases x with x | ⟨d, kvs, ks, a, b, c⟩
  · exact .inl x
  · exact .inr ⟨d, kvs, ks, a, s _ _ b, c⟩
def spCheckedNum (K : PySem.W.Frag) (Cp : Addr) : Sp := fun vs H Q _ => ∃ (p : Addr) (rs : List Pr) (v : V) (val : Str → Int), vs = [.ref p, v] ∧ Prg K Cp H p rs ∧ NumA H v (readsOf rs) val ∧
  ∀ D H', H D = none → NumD H' D (readsOf rs) val → Same H H' → Q (.ref D) H'
abbrev sChecked_numbers : Stmt := top 16
theorem scChecked_numbers : FnScope ["program", "numbers", "given", "place"] ["program", "numbers"] (defScope sChecked_numbers) := ⟨rfl, rfl, rfl, by decide +kernel, rfl, by decide +kernel, by decide +kernel⟩
theorem ok_checkednum {f : Addr} {fd : FuncData} (F : Fun K "checked_numbers" "checked_numbers" sChecked_numbers f fd) (TP : PgC K mg Cp) (mList : mg "list" = none) (c_checked_places : Cal P w K mg base CX0 3 "checked_places" ["program", "places"] (spCheckedPl K Cp C)) : FnOk P w K mg base CX0 4 f fd ["program", "numbers"] (spCheckedNum K Cp) := by
  refine F.ok scChecked_numbers (fun vs H Q E h => ?_) (fun cdv A outer s H vs Q E hr h => ?_)
  · obtain ⟨p, rs, v, val, rfl, _⟩ := h
    rfl
  · obtain ⟨p, rs, v, val, rfl, hP, hv, k⟩ := h
    have hu : (A.deeper (PyProof.Rows.envOfC "checked_numbers" (defScope sChecked_numbers) s.heap.objs.size f cdv)).units + 1 < cLine := by have := hr.units; omega
    have hr_checked_places := hr
    refine ⟨_, (C8.pss_cut (ps_set (i := 2) scChecked_numbers.nd rfl (by first | exact Or.inl rfl | exact Or.inr rfl) (pe_ifExp (pt_cmpR op_isN (pv 1) pe_non (nomark _)) pe_dnewK (pv 1)))
      (pss_cons (ps_expr (pe_cal c_checked_places hr_checked_places pass0 (pa_cons (pv 0) (pa_cons (pe_callTy (call_list_dK rfl) (by rfl) mList (by decide +kernel) (pa_cons (pv 2) pa_nil)) pa_nil))))
      (pss_one (ps_ret (pe_dc (own := [("place", 3)]) (g := (gName 3)) (tt := tYes) rfl scChecked_numbers.nd (pi_tup (fldK K (pv 0))) (blkOk_by (own := [("place", 3)]) (N := ["program", "numbers", "given", "place"]) (sc := defScope sChecked_numbers) (by decide +kernel)) (fun _ _ _ _ _ => (pg_name (i := 3) scChecked_numbers.nd rfl (by first | exact Or.inl rfl | exact Or.inr rfl))) (fun _ _ _ _ _ => pts_nil) (fun _ _ _ _ _ => (pv 3)) (fun _ _ _ _ _ => (pe_dget2 hu (pv 2) (pv 3) pe_int ⟨rfl, rfl, rfl, rfl⟩))))))), ?_⟩
    obtain ⟨dx, d, n, q, us, pl, x, R, up, m⟩ := id hP
    refine ⟨fun σ' H' => ∃ (g : Addr) (kvs : List (Key × V)) (ks : List Str), σ' = [some (.ref p), some v, some (.ref g), none] ∧ Same H H' ∧ H' g = some (.dK kvs) ∧ kvs.map (·.1) = ks.map Sum.inr ∧ (∀ z ∈ ks, z ∈ readsOf rs) ∧ ks.length < 4000 ∧ ∀ z, valV kvs (Sum.inr z) = some (.int (val z)) ∨ (valV kvs (Sum.inr z) = none ∧ val z = 0), ?_, ?_⟩
    · rcases hv with ⟨rfl, h0⟩ | ⟨g, kvs, ks, rfl, hg, ek, kin, few, vals⟩
      · exact ⟨_, rfl, rfl, true, congrArg V.bl (decide_eq_true rfl), iteT fun g ng => ⟨g, [], [], rfl, Same.new ng, upd_same, rfl, by simp, by decide, fun z => .inr ⟨rfl, h0 z⟩⟩⟩
      · exact ⟨_, rfl, rfl, false, congrArg V.bl (decide_eq_false (by intro e; cases e)), iteF ⟨_, rfl, g, kvs, ks, rfl, Same.refl _, hg, ek, kin, few, vals⟩⟩
    · rintro σ H1 ⟨g, kvs, ks, rfl, s1, hg, ek, kin, few, vals⟩
      have lk : kvs.length = ks.length := by have := congrArg List.length ek; simpa using this
      have big : (5000 : Nat) < sizeLine := by decide
      have l192 : pl.length ≤ 4000 := by
        have a := nodup_le up.nd (m := readsOf rs) fun z hz => (m z).mp hz
        have b := reads_len R
        omega
      have ek2 : (kvs.map fun kv => kV kv.1) = ks.map V.str := by
        have e : (kvs.map fun kv => kV kv.1) = (kvs.map (·.1)).map kV := by rw [List.map_map]; rfl
        rw [e, ek, List.map_map]; rfl
      refine ⟨_, rfl, _, rfl, g, kvs, rfl, hg, fun L nL => ?_⟩
      rw [ek2]
      have sL := Same.new (o := .lst (ks.map V.str)) nL
      refine ⟨p, rs, .ref L, ks, rfl, (hP.same s1).same sL, .lst upd_same, few, kin, fun q2 ms H2 N2 m2 s2 => ?_⟩
      have s12 := (s1.trans sL).trans s2
      have hg2 := s2 _ _ (sL _ _ hg)
      have x2 := x.q
      refine ⟨_, rfl, p, Cp, dx, _, _, rfl, s12 _ _ x.o, TP.ins.cl, TP.nQ, flP_q d n q, q, rfl, ⟨_, .of (s12 _ _ x.q)⟩, fun D hD => ?_⟩
      refine it_any walk_tup (fun i H' => Same H2 H' ∧ ∃ kvs : List (Key × V), H' D = some (.dK kvs) ∧ kvs.length ≤ i ∧ ∀ z ∈ pl.take i, valV kvs (Sum.inr z) = some (.int (val z)))
        ⟨Same.new hD, [], upd_same, Nat.zero_le _, (by simp)⟩ (fun i H' _ z => .of (z.1 _ _ (s12 _ _ x.q))) ?_ ?_
      · rintro i y _ H3 hi ⟨s3, kv2, hD3, l3, v3⟩ ⟨rfl, hx⟩
        rw [List.getElem?_map] at hx
        obtain ⟨z, hz, rfl⟩ := Option.map_eq_some_iff.mp hx
        rw [List.length_map] at hi
        refine ⟨rfl, yes_then ?_⟩
        have put : ∃ kvs' k, V.str z = kV k ∧ H3 D = some (.dK kvs') ∧ kvs'.length < sizeLine ∧ (Same H2 (upd H3 D (.dK (putK kvs' k (.int (val z))))) ∧ ∃ kvs : List (Key × V), (upd H3 D (.dK (putK kvs' k (.int (val z))))) D = some (.dK kvs) ∧ kvs.length ≤ i + 1 ∧ ∀ z2 ∈ pl.take (i + 1), valV kvs (Sum.inr z2) = some (.int (val z2))) := by
          refine ⟨kv2, Sum.inr z, rfl, hD3, by omega, s3.mut hD, _, upd_same, Nat.le_trans (putK_le _ _ _) (by omega), fun z2 hz2 => ?_⟩
          by_cases e : z2 = z
          · subst e
            rw [valV_put, if_pos rfl]
          · rw [valV_put, if_neg (fun h => e (Sum.inr.inj h))]
            rw [List.take_add_one, hz] at hz2
            rcases List.mem_append.mp hz2 with h | h
            · exact v3 z2 h
            · exact absurd (List.mem_singleton.mp h) e
        have hg3 := s3 _ _ hg2
        refine ⟨_, rfl, _, rfl, g, rfl, .inl ⟨_, .inl hg3⟩, _, rfl, ?_⟩
        rcases vals z with hv | ⟨hv, h0⟩
        · exact ⟨some (.int (val z)), .inl ⟨_, Sum.inr z, .inl hg3, rfl, hv.symm⟩, put⟩
        · refine ⟨none, .inl ⟨_, Sum.inr z, .inl hg3, rfl, hv.symm⟩, ?_⟩
          rw [h0] at put
          exact put
      · rintro H3 ⟨s3, kv2, hD3, l3, v3⟩
        rw [List.length_map, List.take_length] at v3
        exact k D H3 (s12.free hD) ⟨kv2, hD3, fun z hz => v3 z ((m z).mpr hz)⟩ (s12.trans s3)
end
end Mf
namespace Mf
open PySem L2
theorem firstRead_snoc {br : List Str} {ss : List Step} {s : Step} (h : firstRead br ss = none) : firstRead br (ss ++ [s]) = if s.1 = ("read" : Str) ∧ s.2 ∈ br then some s.2 else none := by
  unfold firstRead at h ⊢
  have h := Option.map_eq_none_iff.mp h
  rw [List.find?_append, h, Option.none_or]
  by_cases c : s.1 = ("read" : Str) ∧ s.2 ∈ br
  · rw [if_pos c, List.find?_cons_of_pos (by simpa using c)]; rfl
  · rw [if_neg c, List.find?_cons_of_neg (by simpa using c)]; rfl
section
variable {P : Program} {w : World} {K : PySem.W.Frag} {mg : Str → Option Value} {base : Heap} {Cp C : Addr}
/-! ### failure -/
def spFail (K : PySem.W.Frag) (Cp C : Addr) : Sp := fun vs H Q _ => ∃ (p b so : Addr) (rs : List Pr) (y : Str) (br out : List Str), vs = [.ref p, .str y, .ref b, .ref so] ∧ Prg K Cp H p rs ∧ y ∈ rs.map Pr.name ∧ NSet C H b br ∧ NSet C H so out ∧
  (failN (pls rs) y br out = none → ∀ H', Same H H' → Q .non H') ∧
  ∀ pa dd, failN (pls rs) y br out = some (pa, dd) → ∀ t u H', Same H H' → H' t = some (.tup [.ref u, .str dd]) → SqT K H' u (pa.map V.str) → Q (.ref t) H'
abbrev sFailure : Stmt := top 57
theorem scFailure : FnScope ["program", "name", "broken", "spared", "paths", "found", "path", "kind", "place"] ["program", "name", "broken", "spared"] (defScope sFailure) := ⟨rfl, rfl, rfl, by decide +kernel, rfl, by decide +kernel, by decide +kernel⟩
set_option maxHeartbeats 1000000 in
theorem ok_failure {f : Addr} {fd : FuncData} (F : Fun K "failure" "failure" sFailure f fd) (O : PgOps P w K mg base Cp) (ON : NsO P w K mg base C) (c_requiring_paths : Cal P w K mg base CX0 4 "requiring_paths" ["program", "name", "spared"] (spReqP K Cp C)) : FnOk P w K mg base CX0 5 f fd ["program", "name", "broken", "spared"] (spFail K Cp C) := by
  refine F.ok scFailure (fun vs H Q E h => ?_) (fun cdv A outer s H vs Q E hr h => ?_)
  · obtain ⟨p, b, so, rs, y, br, out, rfl, _⟩ := h
    rfl
  · obtain ⟨p, b, so, rs, y, br, out, rfl, hP, hy, hB, hN, kn, ks⟩ := h
    have hr1 : Room 1 _ := hr.mono (by decide : 1 ≤ 4); have hr2 : Room 2 _ := hr.mono (by decide : 2 ≤ 4)
    have hr_requiring_paths := hr
    refine ⟨_, (pss_cons (ps_set (i := 4) scFailure.nd rfl (by first | exact Or.inl rfl | exact Or.inr rfl) (pe_cal c_requiring_paths hr_requiring_paths pass0 (pa_cons (pv 0) (pa_cons (pv 1) (pa_cons (pv 3) pa_nil)))))
      (pss_cons (ps_lock (ps_for PassesOwn.never rfl (pi_items (pv 4)) (pg_tup rfl (pgs_cons (pg_name (i := 5) scFailure.nd rfl (by first | exact Or.inl rfl | exact Or.inr rfl)) (pgs_cons (pg_name (i := 6) scFailure.nd rfl (by first | exact Or.inl rfl | exact Or.inr rfl)) pgs_nil)))
        (pss_one (ps_for PassesOwn.never rfl (pi_tup (om_get O.get hr2 pass0 (pv 0) (pv 5))) (pg_tup rfl (pgs_cons (pg_name (i := 7) scFailure.nd rfl (by first | exact Or.inl rfl | exact Or.inr rfl)) (pgs_cons (pg_name (i := 8) scFailure.nd rfl (by first | exact Or.inl rfl | exact Or.inr rfl)) pgs_nil)))
          (pss_one (ps_if (PW.pt (pw_and (pt_cmpR op_eq (pv 7) pe_str (nomark _)) (pw_and1 (pt_cmpR (om_in ON.has hr1 pass0) (pv 8) (pv 2) (by rfl)))))
            (pss_one (ps_ret (pe_tup (pa_cons (pv 6) (pa_cons (pv 8) pa_nil))))) pss_nil)))))
      ) (pss_one (ps_ret pe_non)))), ?_⟩
    have R := (show RightP rs from let ⟨_, _, _, _, _, _, _, R, _⟩ := hP; R)
    refine ⟨_, rfl, _, rfl, _, rfl, p, so, rs, y, out, rfl, hP, hy, hN, fun d kvs ac H1 s1 nd hd pt ea ndk few kin => ?_⟩
    have lk := pt.len
    refine ⟨d, _, hd, trivial, fun od => ?_⟩
    have sL : Same H (upd H1 d (.frz od (.dK kvs))) := s1.mut nd
    have hL : (upd H1 d (.frz od (.dK kvs))) d = some (.frz od (.dK kvs)) := upd_same
    have tL : SameT H1 (upd H1 d (.frz od (.dK kvs))) := SameT.putD .refl hd
    have ptL := pt.sameT tL
    have bo : ∀ r ∈ rs, bodyOf (pls rs) r.name = r.ss := fun r hr => bodyOf_mem (by rw [pls_names]; exact R.nd) (List.mem_map.mpr ⟨r, hr, rfl⟩)
    have fe : failN (pls rs) y br out = failIn (pls rs) br (ac.drop 0) := by rw [ea]; rfl
    generalize failN (pls rs) y br out = res at kn ks fe
    generalize upd H1 d (.frz od (.dK kvs)) = HL at sL hL tL ptL
    obtain ⟨dxb, fb, ib⟩ := hB.ins
    refine ⟨_, rfl, d, od, kvs, rfl, hL, ?_⟩
    refine for_it walk_items (fun i σ H' => ∃ (v5 v6 v7 v8 : Option V), σ = [some (.ref p), some (.str y), some (.ref b), some (.ref so), some (.ref d), v5, v6, v7, v8] ∧ Same HL H' ∧ res = failIn (pls rs) br (ac.drop i)) ⟨none, none, none, none, rfl, Same.refl _, fe⟩ (fun i σ H' _ q => q.choose_spec.choose_spec.choose_spec.choose_spec.2.1 _ _ hL) ?_ ?_
    · rintro i x σ H2 H3 hi ⟨v5, v6, v7, v8, rfl, s2, ei⟩ ⟨T, x1, y1, rfl, hT, rfl, e1, e2⟩
      obtain ⟨kv, hkv, rfl⟩ := Option.map_eq_some_iff.mp e1
      have e2 : kvs[i]?.map Prod.snd = some y1 := e2
      rw [hkv] at e2
      obtain rfl : kv.2 = y1 := Option.some.inj e2
      obtain ⟨e, he, ek, u, eu, sq⟩ := paired_get ptL.p hkv
      have em := List.mem_of_getElem? he
      have s3 := s2.trans (Same.new (o := .tup [kV kv.1, kv.2]) hT)
      have il := (List.getElem?_eq_some_iff.mp he).1
      have ed : ac.drop i = e :: ac.drop (i + 1) := by
        rw [List.drop_eq_getElem_cons il, (List.getElem?_eq_some_iff.mp he).2]
      obtain ⟨r, hrr, er⟩ := List.mem_map.mp (kin e.1 (List.mem_map.mpr ⟨e, em, rfl⟩))
      have hk : kV kv.1 = .str r.name := by rw [ek, er]; rfl
      refine ⟨T, _, rfl, .of upd_same, rfl, _, _, rfl, _, _, rfl, rfl, ?_⟩
      rw [hk, eu] at s3 ⊢
      generalize upd H2 T (.tup [.str r.name, .ref u]) = H3 at s3 ⊢
      have s03 := sL.trans s3
      have PB := hP.same s03
      obtain ⟨dxp, _, _, _, _, _, xp, _⟩ := id PB
      rw [ed] at ei
      have ei : res = match firstRead br r.ss with | some dd => some (e.2, dd) | none => failIn (pls rs) br (ac.drop (i + 1)) := by
        rw [ei, ← bo r hrr, er]; rfl
      refine ⟨_, rfl, _, rfl, p, dxp, _, rfl, xp.o, p, rs, r, rfl, PB, hrr, fun u2 sq2 st => ⟨u2, rfl, ⟨_, sq2⟩, ?_⟩⟩
      have ls : (r.ts.map V.ref).length = r.ss.length := by rw [List.length_map]; exact Paired.length st
      refine for_it walk_tup (fun j σ H' => ∃ (v7 v8 : Option V), σ = [some (.ref p), some (.str y), some (.ref b), some (.ref so), some (.ref d), some (.str r.name), some (.ref u), v7, v8] ∧ H' = H3 ∧ firstRead br (r.ss.take j) = none) ⟨v7, v8, rfl, rfl, rfl⟩ (fun j σ H' _ q => by obtain ⟨_, _, _, rfl, _⟩ := q; exact sq2) ?_ ?_
      · rintro j x σ H4 _ hj ⟨w7, w8, rfl, rfl, fj⟩ ⟨rfl, hx⟩
        rw [List.getElem?_map] at hx
        obtain ⟨t, ht, rfl⟩ := Option.map_eq_some_iff.mp hx
        obtain ⟨sp, hsp, hts⟩ := st.get ht
        have tk : r.ss.take (j + 1) = r.ss.take j ++ [sp] := by rw [List.take_add_one, hsp]; rfl
        have fs := firstRead_snoc (s := sp) fj
        rw [← tk] at fs
        refine ⟨t, _, rfl, .of hts, rfl, _, _, rfl, _, _, rfl, rfl, ?_⟩
        refine ⟨_, rfl, rfl, _, rfl, ?_⟩
        by_cases q1 : sp.1 = ("read" : Str)
        · rw [q1, decide_eq_true rfl]
          refine iteT ⟨_, rfl, _, rfl, b, dxb, _, rfl, s03 _ _ ib, b, br, sp.2, rfl, hB.same s03, _, rfl, _, rfl, ?_⟩
          refine ite2 (fun q2 => ?_) fun q2 => ?_
          · have q2 : sp.2 ∈ br := of_decide_eq_true q2
            rw [if_pos ⟨q1, q2⟩] at fs
            have ff : firstRead br r.ss = some sp.2 := by
              unfold firstRead at fs ⊢
              obtain ⟨s0, h0, e0⟩ := Option.map_eq_some_iff.mp fs
              rw [← List.take_append_drop (j + 1) r.ss, List.find?_append, h0, Option.some_or, Option.map_some, e0]
            rw [ff] at ei
            refine ⟨_, rfl, _, rfl, (by show 2 ≤ sizeLine; decide), fun t2 nt2 => ⟨(Same.new nt2) _ _ (s3 _ _ hL), ?_⟩⟩
            have s4 := s3.trans (Same.new (o := .tup [.ref u, .str sp.2]) nt2)
            have hd4 := s4 _ _ hL
            have td : t2 ≠ d := fun z => by rw [z, s3 _ _ hL] at nt2; cases nt2
            refine ks e.2 sp.2 ei t2 u _ ((sL.trans s4).mut nd) ?_ ?_
            · rw [upd_ne td]; exact upd_same
            · exact frz_tup hd4 (s4.tup sq)
          · exact ⟨_, _, rfl, rfl, by rw [fs]; exact if_neg fun c => q2 (decide_eq_true c.2)⟩
        · have hn : ¬ (V.str sp.1 = V.str ("read" : Str)) := fun z => q1 (V.str.inj z)
          rw [decide_eq_false hn]
          exact iteF (iteF ⟨_, _, rfl, rfl, by rw [fs]; exact if_neg fun c => q1 c.1⟩)
      · rintro σ _ ⟨w7, w8, rfl, rfl, fj⟩
        rw [ls, List.take_length] at fj
        rw [fj] at ei
        exact ⟨_, _, _, _, rfl, s3, ei⟩
    · rintro σ H2 ⟨v5, v6, v7, v8, rfl, s2, ei⟩
      rw [lk, List.drop_length] at ei
      exact ⟨s2 _ _ hL, kn ei _ ((sL.trans s2).mut nd)⟩
end
end Mf
namespace Mf
open PySem L2
/-- the item that stands for a procedure: the calm rows come first -/
def nodP (rs : List Pr) (br out : List Str) (z : Str) : Itm :=
  if (failN (pls rs) z br out).isSome = true then .gap else .nd (if z ∈ out then fstIx z (rs.map Pr.name) else rs.length + fstIx z (rs.map Pr.name))
section
variable {P : Program} {w : World} {K : PySem.W.Frag} {mg : Str → Option Value} {base : Heap} {Cp C : Addr}
def spPresent (K : PySem.W.Frag) (Cp C : Addr) : Sp := fun vs H Q _ => ∃ (p b so : Addr) (rs : List Pr) (br out : List Str), vs = [.ref p, .ref b, .ref so] ∧ Prg K Cp H p rs ∧ NSet C H b br ∧ NSet C H so out ∧
  ∀ D H', H D = none → NodD K H' D (rs.map Pr.name) (nodP rs br out) → Same H H' → Q (.ref D) H'
abbrev sPresent_nodes : Stmt := top 58
theorem scPresent_nodes : FnScope ["program", "broken", "spared", "nodes", "at", "name"] ["program", "broken", "spared"] (defScope sPresent_nodes) := ⟨rfl, rfl, rfl, by decide +kernel, rfl, by decide +kernel, by decide +kernel⟩
set_option maxHeartbeats 1000000 in
theorem ok_present {f xG : Addr} {fd : FuncData} (F : Fun K "_present_nodes" "_present_nodes" sPresent_nodes f fd) (TP : PgC K mg Cp) (O : PgOps P w K mg base Cp) (ON : NsO P w K mg base C) (mEnum : mg "enumerate" = none) (mLen : mg "len" = none) (mg_GAP : mg "GAP" = some (.ref xG)) (qG : ∀ H, SqT K H xG ([V.str "gap"])) (c_failure : Cal P w K mg base CX0 5 "failure" ["program", "name", "broken", "spared"] (spFail K Cp C)) : FnOk P w K mg base CX0 6 f fd ["program", "broken", "spared"] (spPresent K Cp C) := by
  refine F.ok scPresent_nodes (fun vs H Q E h => ?_) (fun cdv A outer s H vs Q E hr h => ?_)
  · obtain ⟨p, b, so, rs, br, out, rfl, _⟩ := h
    rfl
  · obtain ⟨p, b, so, rs, br, out, rfl, hP, hB, hN, k⟩ := h
    have hu : (A.deeper (PyProof.Rows.envOfC "_present_nodes" (defScope sPresent_nodes) s.heap.objs.size f cdv)).units + 1 < cLine := by have := hr.units; omega
    have hr1 : Room 1 _ := hr.mono (by decide : 1 ≤ 5); have hr2 : Room 2 _ := hr.mono (by decide : 2 ≤ 5)
    have hr_failure := hr
    refine ⟨_, (pss_cons (ps_set (i := 3) scPresent_nodes.nd rfl (by first | exact Or.inl rfl | exact Or.inr rfl) pe_dnewK)
      (pss_cons (ps_for PassesOwn.never rfl (pi_enumA (by rfl) mEnum (pa_cons (fldK K (pv 0)) pa_nil)) (pg_tup rfl (pgs_cons (pg_name (i := 4) scPresent_nodes.nd rfl (by first | exact Or.inl rfl | exact Or.inr rfl)) (pgs_cons (pg_name (i := 5) scPresent_nodes.nd rfl (by first | exact Or.inl rfl | exact Or.inr rfl)) pgs_nil)))
        (pss_one (ps_if (pt_cmpR op_notN (pe_cal c_failure hr_failure pass0 (pa_cons (pv 0) (pa_cons (pv 5) (pa_cons (pv 1) (pa_cons (pv 2) pa_nil))))) pe_non (nomark _))
          (pss_one (ps_asg (pe_glob (v := .ref _) rfl mg_GAP rfl) (pg_sub (pv 3) (pv 5) (set_dict hu)))) (pss_one (ps_asg (pe_tup (pa_cons pe_str (pa_cons (pe_ifExp (pt_cmpR (om_in ON.has hr1 pass0) (pv 5) (pv 2) (by rfl)) (pv 4) (pe_op op_add (pe_callB (om_len O.len hr2 pass0) (by rfl) mLen (by decide +kernel) (pa_cons (pv 0) pa_nil)) (pv 4))) pa_nil))) (pg_sub (pv 3) (pv 5) (set_dict hu)))))))
      (pss_one (ps_ret (pv 3))))), ?_⟩
    obtain ⟨dx, d, n, q, us, pl, x, R, up, m⟩ := id hP
    have few := R.few
    obtain ⟨dxo, fo, io⟩ := hN.ins
    intro D hD
    have sD := Same.new (o := .dK []) hD
    refine ⟨_, rfl, p, Cp, dx, _, _, rfl, sD _ _ x.o, TP.ins.cl, TP.nN, flP_n d n q, n, _, rfl, .inr ⟨(x.n.same sD).sq, ?_⟩⟩
    refine for_it walk_enumST (fun i σ H' => ∃ (v4 v5 : Option V), σ = [some (.ref p), some (.ref b), some (.ref so), some (.ref D), v4, v5] ∧ Same H H' ∧ ∃ kvs : List (Key × V), H' D = some (.dK kvs) ∧ kvs.length ≤ i ∧ ∀ z ∈ (rs.map Pr.name).take i, ∃ t, valV kvs (Sum.inr z) = some (.ref t) ∧ ItA K H' t (nodP rs br out z))
      ⟨none, none, rfl, sD, [], upd_same, Nat.zero_le _, (by simp)⟩ (fun i σ H' _ q => (x.n.same q.choose_spec.choose_spec.2.1).sq) ?_ ?_
    · rintro i y σ H1 H2 hi ⟨v4, v5, rfl, s1, kvs, hD1, l1, v1⟩ ⟨t0, x0, y0, rfl, hT, rfl, e1, e2⟩
      obtain rfl : x0 = .int (0 + (i : Nat)) := (Option.some.inj e1).symm
      have e2 : ((rs.map Pr.name).map V.str)[i]? = some y0 := e2
      rw [List.getElem?_map] at e2
      obtain ⟨z, hz, rfl⟩ := Option.map_eq_some_iff.mp e2
      rw [Int.zero_add]
      rw [List.length_map, List.length_map] at hi
      have zm := List.mem_of_getElem? hz
      have s2 := s1.trans (Same.new (o := .tup [.int (i : Nat), .str z]) hT)
      have hD2 := (Same.new (o := .tup [.int (i : Nat), .str z]) hT) _ _ hD1
      have v2 : ∀ z2 ∈ (rs.map Pr.name).take i, ∃ t, valV kvs (Sum.inr z2) = some (.ref t) ∧ ItA K (upd H1 t0 (.tup [.int (i : Nat), .str z])) t (nodP rs br out z2) := fun z2 hz2 => let ⟨t, a, b⟩ := v1 z2 hz2; ⟨t, a, b.same (Same.new hT)⟩
      have h0 : (upd H1 t0 (.tup [.int (i : Nat), .str z])) t0 = some (.tup [.int (i : Nat), .str z]) := upd_same
      generalize upd H1 t0 (.tup [.int (i : Nat), .str z]) = H3 at s2 hD2 v2 h0
      refine ⟨t0, _, rfl, .of h0, rfl, _, _, rfl, _, _, rfl, rfl, ?_⟩
      have fix : fstIx z (rs.map Pr.name) = i := fstIx_nd R.nd hz
      have fin : ∀ t H4, ItA K H4 t (nodP rs br out z) → Same H3 H4 → ∃ (v4 v5 : Option V), [some (.ref p), some (.ref b), some (.ref so), some (.ref D), some (.int (i : Nat)), some (.str z)] = [some (.ref p), some (.ref b), some (.ref so), some (.ref D), v4, v5] ∧ Same H (upd H4 D (.dK (putK kvs (Sum.inr z) (.ref t)))) ∧ ∃ kvs' : List (Key × V), (upd H4 D (.dK (putK kvs (Sum.inr z) (.ref t)))) D = some (.dK kvs') ∧ kvs'.length ≤ i + 1 ∧
          ∀ z3 ∈ (rs.map Pr.name).take (i + 1), ∃ t', valV kvs' (Sum.inr z3) = some (.ref t') ∧ ItA K (upd H4 D (.dK (putK kvs (Sum.inr z) (.ref t)))) t' (nodP rs br out z3) := fun t H4 it s4 => by
        have hD4 := s4 _ _ hD2
        have sT : SameT H4 (upd H4 D (.dK (putK kvs (Sum.inr z) (.ref t)))) := SameT.putD .refl hD4
        refine ⟨_, _, rfl, (s2.trans s4).mut hD, _, upd_same, Nat.le_trans (putK_le _ _ _) (by omega), fun z2 hz2 => ?_⟩
        by_cases e : z2 = z
        · subst e
          exact ⟨t, by rw [valV_put, if_pos rfl], sT.tup it⟩
        · have z2m : z2 ∈ (rs.map Pr.name).take i := by
            rw [List.take_add_one, hz] at hz2
            rcases List.mem_append.mp hz2 with h | h
            · exact h
            · exact absurd (List.mem_singleton.mp h) e
          obtain ⟨t2, a, b⟩ := v2 z2 z2m
          exact ⟨t2, by rw [valV_put, if_neg (fun h => e (Sum.inr.inj h))]; exact a, sT.tup (b.same s4)⟩
      have sz : (17 : Nat) < sizeLine := by decide
      refine ⟨_, rfl, _, rfl, _, rfl, _, rfl, p, b, so, rs, z, br, out, rfl, hP.same s2, zm, hB.same s2, hN.same s2, fun e H4 s4 => ?_, fun pa dd e t u H4 s4 ht sq => ?_⟩
      · refine ⟨rfl, false, rfl, iteF ?_⟩
        have s24 := s2.trans s4
        have nod : nodP rs br out z = .nd (if z ∈ out then i else rs.length + i) := by unfold nodP; rw [e, fix]; rfl
        refine ⟨_, rfl, _, rfl, so, dxo, _, rfl, s24 _ _ io, so, out, z, rfl, hN.same s24, _, rfl, _, rfl, ?_⟩
        have hD4 := s4 _ _ hD2
        show if decide (z ∈ out) = true then _ else _
        by_cases zo : z ∈ out
        · rw [decide_eq_true zo]
          rw [if_pos zo] at nod
          exact iteT ⟨_, rfl, (by show 2 ≤ sizeLine; decide), fun t ht => ⟨_, rfl, _, rfl, D, _, rfl, .inl ⟨kvs, Sum.inr z, (Same.new ht) _ _ hD4, rfl, by omega, rfl⟩, fin t _ (by rw [nod]; exact .of upd_same) (s4.trans (Same.new ht))⟩⟩
        · rw [decide_eq_false zo]
          rw [if_neg zo] at nod
          refine iteF ⟨_, rfl, p, dx, _, rfl, s24 _ _ x.o, p, rs, rfl, hP.same s24, rs.length, rfl, by omega, _, rfl, _, _, rfl, rfl, (by show 2 ≤ sizeLine; decide), fun t ht => ⟨_, rfl, _, rfl, D, _, rfl, .inl ⟨kvs, Sum.inr z, (Same.new ht) _ _ hD4, rfl, by omega, rfl⟩, fin t _ (by rw [nod]; exact .of upd_same) (s4.trans (Same.new ht))⟩⟩
      · refine ⟨rfl, true, rfl, iteT ?_⟩
        have nod : nodP rs br out z = .gap := by unfold nodP; rw [e]; rfl
        have s24 := s2.trans s4
        exact ⟨_, rfl, _, rfl, D, _, rfl, .inl ⟨kvs, Sum.inr z, s4 _ _ hD2, rfl, by omega, rfl⟩, fin xG H4 (by rw [nod]; exact qG H4) s4⟩
    · rintro σ H1 ⟨v4, v5, rfl, s1, kvs, hD1, l1, v1⟩
      rw [List.length_map, List.take_length] at v1
      exact ⟨_, rfl, k D H1 hD ⟨kvs, hD1, v1⟩ s1⟩
end
end Mf
namespace Mf
open PySem L2
/-! ### membership is all that counts -/
theorem firstRead_congr {br br' : List Str} (h : ∀ z, z ∈ br ↔ z ∈ br') (ss : List Step) : firstRead br ss = firstRead br' ss := by
  unfold firstRead
  have : (fun s : Step => decide (s.1 = ("read" : Str)) && decide (s.2 ∈ br)) = fun s : Step => decide (s.1 = ("read" : Str)) && decide (s.2 ∈ br') := funext fun s => by
    rw [decide_eq_decide.mpr (h s.2)]
  rw [this]
theorem failIn_congr {x : List Pc} {br br' : List Str} (h : ∀ z, z ∈ br ↔ z ∈ br') : ∀ ac : List Pa, failIn x br ac = failIn x br' ac
  | [] => rfl
  | e :: es => by
    unfold failIn
    rw [firstRead_congr h, failIn_congr h es]
theorem pathsN_congr {x : List Pc} {kds out out' sts : List Str} (h : ∀ z, z ∈ out ↔ z ∈ out') : pathsN x kds out sts = pathsN x kds out' sts := by
  have e1 : ∀ path acc s, putP kds out path acc s = putP kds out' path acc s := fun path acc s => by
    unfold putP
    simp only [h s.2]
  have e2 : ∀ path (ss : List Step) acc, visP kds out path acc ss = visP kds out' path acc ss := fun path ss => by
    induction ss with
    | nil => intro acc; rfl
    | cons s ss ih => intro acc; show visP kds out path (putP kds out path acc s) ss = visP kds out' path (putP kds out' path acc s) ss; rw [e1, ih]
  have e3 : ∀ n j acc, growP (bodyOf x) kds out n j acc = growP (bodyOf x) kds out' n j acc := fun n => by
    induction n with
    | zero => intro j acc; rfl
    | succ n ih =>
      intro j acc
      unfold growP
      cases acc[j]? with
      | none => rfl
      | some e => exact (ih _ _).trans (by rw [e2])
  unfold pathsN
  rw [e3]
  have e4 : startP out sts = startP out' sts := by
    unfold startP
    simp only [h]
  rw [e4]
theorem failN_congr {x : List Pc} {y : Str} {br br' out out' : List Str} (h : ∀ z, z ∈ br ↔ z ∈ br') (g : ∀ z, z ∈ out ↔ z ∈ out') : failN x y br out = failN x y br' out' := by
  unfold failN
  rw [pathsN_congr g, failIn_congr h]
theorem nodP_congr {rs : List Pr} {br br' out out' : List Str} (h : ∀ z, z ∈ br ↔ z ∈ br') (g : ∀ z, z ∈ out ↔ z ∈ out') (z : Str) : nodP rs br out z = nodP rs br' out' z := by
  unfold nodP
  rw [failN_congr h g]
  simp only [g z]
/-! ### the rows -/
def calmN (rs : List Pr) (z : Str) : Itm := .nd (fstIx z (rs.map Pr.name))
/-- the calm rows, and behind them the rows of the present world -/
def plainR (rs : List Pr) (val : Str → Int) (br out : List Str) : List (List Itm) := (rs.map fun r => r.ss.map (itemOf val (calmN rs))) ++ rs.map fun r => r.ss.map (itemOf val (nodP rs br out))
def stP (rs : List Pr) (out : List Str) (nm : Str) : Nat := if nm ∈ out then fstIx nm (rs.map Pr.name) else rs.length + fstIx nm (rs.map Pr.name)
theorem plainR_congr {rs : List Pr} {val : Str → Int} {br br' out out' : List Str} (h : ∀ z, z ∈ br ↔ z ∈ br') (g : ∀ z, z ∈ out ↔ z ∈ out') : plainR rs val br out = plainR rs val br' out' := by
  have e : nodP rs br out = nodP rs br' out' := funext (nodP_congr h g)
  unfold plainR
  rw [e]
theorem stP_congr {rs : List Pr} {nm : Str} {out out' : List Str} (g : ∀ z, z ∈ out ↔ z ∈ out') : stP rs out nm = stP rs out' nm := by
  unfold stP
  simp only [g nm]
theorem fst_lt {rs : List Pr} {z : Str} (h : z ∈ rs.map Pr.name) : fstIx z (rs.map Pr.name) < rs.length := by
  have := (List.getElem?_eq_some_iff.mp (fstIx_at h)).1
  rwa [List.length_map] at this
theorem plainR_len {rs : List Pr} {val : Str → Int} {br out : List Str} : (plainR rs val br out).length = rs.length + rs.length := by
  unfold plainR
  rw [List.length_append, List.length_map, List.length_map]
theorem stP_lt {rs : List Pr} {out : List Str} {nm : Str} (h : nm ∈ rs.map Pr.name) : stP rs out nm < rs.length + rs.length := by
  have := fst_lt h
  unfold stP
  split <;> omega
theorem itemOf_nd {val : Str → Int} {nod : Str → Itm} {s : Step} {i : Nat} (h : itemOf val nod s = .nd i) : s.1 ≠ "read" ∧ s.1 ≠ "say" ∧ nod s.2 = .nd i := by
  unfold itemOf at h
  split at h
  · cases h
  · split at h
    · cases h
    · rename_i a b
      exact ⟨a, b, h⟩
theorem plainR_ok {rs : List Pr} (R : RightP rs) {val : Str → Int} {br out : List Str} : RwOk (plainR rs val br out) := by
  have few := R.few
  have rowl : ∀ (nod : Str → Itm) (r : Pr), r ∈ rs → (r.ss.map (itemOf val nod)).length ≤ 4000 := fun nod r hr => by
    rw [List.length_map]
    exact Nat.le_trans (bodyB_len (R.ri r hr).2.1) (by decide)
  refine ⟨by rw [plainR_len]; omega, fun r hr => ?_, fun r hr i hi => ?_⟩
  · unfold plainR at hr
    rcases List.mem_append.mp hr with h | h
    · obtain ⟨r0, h0, rfl⟩ := List.mem_map.mp h
      exact rowl _ r0 h0
    · obtain ⟨r0, h0, rfl⟩ := List.mem_map.mp h
      exact rowl _ r0 h0
  · rw [plainR_len]
    have cl : ∀ (r0 : Pr), r0 ∈ rs → ∀ s ∈ r0.ss, s.1 ≠ "read" → s.1 ≠ "say" → s.2 ∈ rs.map Pr.name := fun r0 h0 s hs e1 e2 =>
      R.ca r0 h0 s hs (calls_of (stepB_kind (bodyB_st (R.ri r0 h0).2.1 s hs)) e1 e2)
    unfold plainR at hr
    rcases List.mem_append.mp hr with h | h
    · obtain ⟨r0, h0, rfl⟩ := List.mem_map.mp h
      obtain ⟨s, hs, e⟩ := List.mem_map.mp hi
      obtain ⟨e1, e2, e3⟩ := itemOf_nd e
      have := fst_lt (cl r0 h0 s hs e1 e2)
      unfold calmN at e3
      cases e3
      omega
    · obtain ⟨r0, h0, rfl⟩ := List.mem_map.mp h
      obtain ⟨s, hs, e⟩ := List.mem_map.mp hi
      obtain ⟨e1, e2, e3⟩ := itemOf_nd e
      have := fst_lt (cl r0 h0 s hs e1 e2)
      unfold nodP at e3
      split at e3
      · cases e3
      · cases e3
        split <;> omega
section
variable {P : Program} {w : World} {K : PySem.W.Frag} {mg : Str → Option Value} {base : Heap} {Cp C CR CF : Addr}
/-! ### CallFailed -/
def spIni3 (C : Addr) : Sp := fun vs H Q _ => ∃ (a : Addr) (x y z : V), vs = [.ref a, x, y, z] ∧ H a = some (exo a C none) ∧
  ∀ dx, H dx = none → dx ≠ a → ∀ H', H' dx = some (exd dx [("place", z), ("path", y), ("name", x)]) → H' a = some (exo a C (some dx)) →
    (∀ b, b ≠ a → b ≠ dx → H' b = H b) → Q .non H'
abbrev sCallFailedInit : Stmt := inClass (top 8) 0
theorem scCallFailedInit : FnScope ["self", "name", "path", "place"] ["self", "name", "path", "place"] (defScope sCallFailedInit) := ⟨rfl, rfl, rfl, by decide +kernel, rfl, by decide +kernel, by decide +kernel⟩
theorem ok_CallFailed {f : Addr} {fd : FuncData} (F : Fun K "__init__" "CallFailed.__init__" sCallFailedInit f fd) (T : OexC K C) (N1 : PySem.W.findIn K (.ref C) "name" = some none) (N2 : PySem.W.findIn K (.ref C) "path" = some none) (N3 : PySem.W.findIn K (.ref C) "place" = some none) : FnOk P w K mg base CX0 1 f fd ["self", "name", "path", "place"] (spIni3 C) := by
  refine F.ok scCallFailedInit (fun vs H Q E h => ?_) (fun cdv A outer s H vs Q E hr h => ?_)
  · obtain ⟨a, x, y, z, rfl, _⟩ := h
    rfl
  · obtain ⟨a, x, y, z, rfl, ha, k⟩ := h
    refine ⟨_, pss_cons (ps_ost (pv 0) (pv 1)) (pss_cons (ps_ost (pv 0) (pv 2)) (pss_one (ps_ost (pv 0) (pv 3)))), ?_⟩
    refine ⟨_, rfl, _, rfl, a, C, rfl, T, N1, .inl ⟨ha, fun dx hd na => ?_⟩⟩
    have e1 : (upd (upd H dx (exd dx [("name", x)])) a (exo a C (some dx))) dx = some (exd dx [("name", x)]) := by rw [upd_ne na]; exact upd_same
    refine ⟨_, rfl, _, rfl, a, C, rfl, T, N2, .inr ⟨dx, _, upd_same, e1, (by show 1 ≤ 900; decide), ?_⟩⟩
    have e2 : (upd (upd (upd H dx (exd dx [("name", x)])) a (exo a C (some dx))) dx (exd dx [("path", y), ("name", x)])) a = some (exo a C (some dx)) := by rw [upd_ne (Ne.symm na)]; exact upd_same
    refine ⟨_, rfl, _, rfl, a, C, rfl, T, N3, .inr ⟨dx, _, e2, upd_same, (by show 2 ≤ 900; decide), ?_⟩⟩
    refine k dx hd na _ upd_same ?_ ?_
    · rw [upd_ne (Ne.symm na)]; exact e2
    · intro b ba bd
      rw [upd_ne bd, upd_ne bd, upd_ne ba, upd_ne bd]

theorem mk_ini3 {H1 : Hp} {x y z : V} {Q : XK} (k : ∀ d H', H1 d = none → Same H1 H' → H' d = some (.xd [("place", z), ("path", y), ("name", x)]) → Q (.ref C) (some d) H') :
    ([x, y, z] : List V).length ≤ 1000 ∧ ∀ a, H1 a = none → spIni3 C (.ref a :: ([x, y, z] ++ [])) (upd H1 a (exo a C none)) (fun v H2 => v = .non ∧ ∃ (d : Addr) (fs : List (Str × V)), H2 a = some (exo a C (some d)) ∧ H2 d = some (exd d fs) ∧ H1 d = none ∧ Q (.ref C) (some d) (upd (del H2 a) d (.xd fs))) (fun _ _ _ => False) := by
  refine ⟨(by show 3 ≤ 1000; decide), fun a ha => ⟨a, x, y, z, rfl, upd_same, fun dx hdx ne H' h1 h2 hs => ⟨rfl, dx, _, h2, h1, ?_, ?_⟩⟩⟩
  · rw [upd_ne ne] at hdx; exact hdx
  · have hdx0 : H1 dx = none := by rw [upd_ne ne] at hdx; exact hdx
    refine k dx _ hdx0 (fun b o hb => ?_) upd_same
    have b1 : b ≠ dx := ne_of_none hb hdx0
    have b2 : b ≠ a := ne_of_none hb ha
    rw [upd_ne b1, del_ne b2, hs b b2 b1, upd_ne b2]
    exact hb
abbrev ErF (P : Program) (w : World) (K : PySem.W.Frag) (mg : Str → Option Value) (base : Heap) (CF : Addr) : Prop := ErC P w K mg base "CallFailed" CF ["self", "name", "path", "place"] (spIni3 CF)
/-! ### plain_result -/
def spPlain (K : PySem.W.Frag) (Cp C CR CF : Addr) : Sp := fun vs H Q E => ∃ (p : Addr) (rs : List Pr) (nm : Str) (num brv sov : V) (val : Str → Int) (br out : List Str), vs = [.ref p, .str nm, num, brv, sov] ∧ Prg K Cp H p rs ∧ nm ∈ rs.map Pr.name ∧ NumA H num (readsOf rs) val ∧
  ArgS K C H brv br ∧ br.length < 4000 ∧ (∀ z ∈ br, z ∈ readsOf rs) ∧ ArgS K C H sov out ∧ out.length < 4000 ∧ (∀ z ∈ out, z ∈ rs.map Pr.name) ∧
  (∀ pa dd, failN (pls rs) nm br out = some (pa, dd) → ∀ d u H', H d = none → Same H H' → H' d = some (.xd [("place", .str dd), ("path", .ref u), ("name", .str nm)]) → SqT K H' u (pa.map V.str) → E (.ref CF) (some d) H') ∧
  (failN (pls rs) nm br out = none → ∀ r dx d us H', RsA K CR H' r dx d us (canonN (plainR rs val br out) (stP rs out nm)) → H r = none → H d = none → (∀ u ∈ us, u ≠ d ∧ H u = none) → Same H H' → Q (.ref r) H')
theorem ArgS.sameH {H H' : Hp} {v : V} {xs : List Str} (x : ArgS K C H v xs) (s : Same H H') : ArgS K C H' v xs := x.same s
abbrev sPlain_result : Stmt := top 56
theorem scPlain_result : FnScope ["program", "name", "numbers", "broken", "spared", "spared_names", "values", "broken_places", "failed", "calm_nodes", "nodes", "rows", "at", "callee"] ["program", "name", "numbers", "broken", "spared"] (defScope sPlain_result) := ⟨rfl, rfl, rfl, by decide +kernel, rfl, by decide +kernel, by decide +kernel⟩
set_option maxHeartbeats 2000000 in
theorem ok_plain {f g pp : Addr} {mc : Value} {fd : FuncData} {dvs : List V} {kws : List (Str × V)} {ar : Arguments} (F : FunD K "plain_result" "plain_result" ar (defBody sPlain_result) (defScope sPlain_result) dvs kws f fd) (U : ErF P w K mg base CF) (TR : RsC K mg CR) (TP : PgC K mg Cp) (mEnum : mg "enumerate" = none)
    (cr : ClX.CRead K CR mc) (cm : ClX.CMet K CR mc "from_row" pp g) (FP : FnR P w K mg base CX0 8 g (spFromRow K CR))
    (c_check_procedure : Cal P w K mg base CX0 2 "check_procedure" ["program", "name"] (spCheck K Cp)) (c_checked_procedures : Cal P w K mg base CX0 3 "checked_procedures" ["program", "names"] (spCheckeds K Cp C)) (c_checked_numbers : Cal P w K mg base CX0 4 "checked_numbers" ["program", "numbers"] (spCheckedNum K Cp)) (c_checked_places : Cal P w K mg base CX0 3 "checked_places" ["program", "places"] (spCheckedPl K Cp C))
    (c_failure : Cal P w K mg base CX0 5 "failure" ["program", "name", "broken", "spared"] (spFail K Cp C)) (c__present_nodes : Cal P w K mg base CX0 6 "_present_nodes" ["program", "broken", "spared"] (spPresent K Cp C)) (c_rows_of_all : Cal P w K mg base CX0 3 "rows_of_all" ["program", "values", "nodes"] (spRowsAll K Cp)) :
    FnOk P w K mg base (L2.CX P w) 9 f fd ["program", "name", "numbers", "broken", "spared"] (spPlain K Cp C CR CF) := by
  refine F.ok scPlain_result (fun vs H Q E h => ?_) (fun cdv A outer s H vs Q E hr h => ?_)
  · obtain ⟨p, rs, nm, num, brv, sov, val, br, out, rfl, _⟩ := h
    rfl
  · obtain ⟨p, rs, nm, num, brv, sov, val, br, out, rfl, hP, hnm, hnum, hbr, lbr, ibr, hso, lso, iso, kE, kQ⟩ := h
    have hu : (A.deeper (PyProof.Rows.envOfC "plain_result" (defScope sPlain_result) s.heap.objs.size f cdv)).units + 1 < cLine := by have := hr.units; omega
    have mg_Result := TR.mgC
    have hr2 : Room 2 _ := hr.mono (by decide : 2 ≤ 8); have hr3 : Room 3 _ := hr.mono (by decide : 3 ≤ 8)
    have hr_check_procedure := hr2; have hr_checked_procedures := hr3; have hr_checked_places := hr3; have hr_checked_numbers : Room 4 _ := hr.mono (by decide : 4 ≤ 8); have hr_failure : Room 5 _ := hr.mono (by decide : 5 ≤ 8); have hr__present_nodes : Room 6 _ := hr.mono (by decide : 6 ≤ 8); have hr_rows_of_all := hr3
    refine ⟨_, (pss_cons (ps_expr (pe_cal c_check_procedure hr_check_procedure pass0 (pa_cons (pv 0) (pa_cons (pv 1) pa_nil))))
      (pss_cons (ps_set (i := 5) scPlain_result.nd rfl (by first | exact Or.inl rfl | exact Or.inr rfl) (pe_cal c_checked_procedures hr_checked_procedures pass0 (pa_cons (pv 0) (pa_cons (pv 4) pa_nil))))
      (pss_cons (ps_set (i := 6) scPlain_result.nd rfl (by first | exact Or.inl rfl | exact Or.inr rfl) (pe_cal c_checked_numbers hr_checked_numbers pass0 (pa_cons (pv 0) (pa_cons (pv 2) pa_nil))))
      (pss_cons (ps_set (i := 7) scPlain_result.nd rfl (by first | exact Or.inl rfl | exact Or.inr rfl) (pe_cal c_checked_places hr_checked_places pass0 (pa_cons (pv 0) (pa_cons (pv 3) pa_nil))))
      (pss_cons (ps_set (i := 8) scPlain_result.nd rfl (by first | exact Or.inl rfl | exact Or.inr rfl) (pe_cal c_failure hr_failure pass0 (pa_cons (pv 0) (pa_cons (pv 1) (pa_cons (pv 7) (pa_cons (pv 5) pa_nil))))))
      (pss_cons (ps_if (pt_cmpR op_notN (pv 8) pe_non (nomark _))
        (pss_one (ps_raise rfl (takes_of rfl rfl rfl rfl) (pmk_er U hr2 pass0 (pa_cons (pv 1) (pa_cons (pe_ix (ixt K) (pv 8) pe_int (fun _ _ => rfl)) (pa_cons (pe_ix (ixt K) (pv 8) pe_int (fun _ _ => rfl)) pa_nil)))))) pss_nil)
      (pss_cons (ps_setDc (i := 9) (own := [("at", 12), ("callee", 13)]) (g := (gTup K 2 (gCons (gName 12) (gCons (gName 13) gNil)))) (tt := tYes) rfl scPlain_result.nd rfl rfl (sw_trueD rfl rfl rfl (by decide +kernel)) (pi_enumA (by rfl) mEnum (pa_cons (fldK K (pv 0)) pa_nil)) (blkOk_by (own := [("at", 12), ("callee", 13)]) (N := ["program", "name", "numbers", "broken", "spared", "spared_names", "values", "broken_places", "failed", "calm_nodes", "nodes", "rows", "at", "callee"]) (sc := defScope sPlain_result) (by decide +kernel)) (fun _ _ _ _ _ => (pg_tup rfl (pgs_cons (pg_name (i := 12) scPlain_result.nd rfl (by first | exact Or.inl rfl | exact Or.inr rfl)) (pgs_cons (pg_name (i := 13) scPlain_result.nd rfl (by first | exact Or.inl rfl | exact Or.inr rfl)) pgs_nil)))) (fun _ _ _ _ _ => pts_nil) (fun _ _ _ _ _ => (pv 13)) (fun _ _ _ _ _ => (pe_tup (pa_cons pe_str (pa_cons (pv 12) pa_nil)))))
      (pss_cons (ps_set (i := 10) scPlain_result.nd rfl (by first | exact Or.inl rfl | exact Or.inr rfl) (pe_cal c__present_nodes hr__present_nodes pass0 (pa_cons (pv 0) (pa_cons (pv 7) (pa_cons (pv 5) pa_nil)))))
      (pss_cons (ps_set (i := 11) scPlain_result.nd rfl (by first | exact Or.inl rfl | exact Or.inr rfl) (pe_op op_cat (pe_cal c_rows_of_all hr_rows_of_all pass0 (pa_cons (pv 0) (pa_cons (pv 6) (pa_cons (pv 9) pa_nil)))) (pe_cal c_rows_of_all hr_rows_of_all pass0 (pa_cons (pv 0) (pa_cons (pv 6) (pa_cons (pv 10) pa_nil))))))
      (pss_one (ps_ret (ClX.pe_cmeth (pe_glob (v := .ref _) rfl mg_Result rfl) cr cm FP hr pass0 (pa_cons (pv 11) (pa_cons (pe_ix (ixt K) (pe_dget hu (pv 10) (pv 1) (fun _ _ => rfl)) pe_int (fun _ _ => rfl)) pa_nil)))))))))))))), ?_⟩
    have R := (show RightP rs from let ⟨_, _, _, _, _, _, _, R, _⟩ := hP; R)
    have few := R.few
    have sz : (5000 : Nat) < sizeLine := by decide
    refine ⟨_, rfl, _, rfl, p, rs, nm, rfl, hP, hnm, ?_⟩
    refine ⟨_, rfl, _, rfl, p, rs, sov, out, rfl, hP, hso, lso, iso, fun so os H1 N1 m1 s1 => ?_⟩
    refine ⟨_, rfl, _, rfl, p, rs, num, val, rfl, hP.same s1, hnum.same s1, fun dv H2 nD2 V2 s2 => ?_⟩
    have s12 := s1.trans s2
    refine ⟨_, rfl, _, rfl, p, rs, brv, br, rfl, hP.same s12, hbr.same s12, lbr, ibr, fun b bs H3 N3 m3 s3 => ?_⟩
    have s13 := s12.trans s3
    have N1' := (N1.same s2).same s3
    have V3 := V2.same s3
    have fc : failN (pls rs) nm bs os = failN (pls rs) nm br out := failN_congr m3 m1
    have pc : plainR rs val bs os = plainR rs val br out := plainR_congr m3 m1
    have sc' : stP rs os nm = stP rs out nm := stP_congr m1
    rw [← fc] at kE kQ
    rw [← pc, ← sc'] at kQ
    have iso' : ∀ z ∈ os, z ∈ rs.map Pr.name := fun z hz => iso z ((m1 z).mp hz)
    clear fc pc sc'
    refine ⟨_, rfl, _, rfl, _, rfl, _, rfl, p, b, so, rs, nm, bs, os, rfl, hP.same s13, hnm, N3, N1', fun e H4 s4 => ?_, fun pa dd e t u H4 s4 ht sq => ?_⟩
    · have kQ := kQ e
      refine ⟨_, rfl, rfl, false, rfl, iteF ?_⟩
      have s14 := s13.trans s4
      have P4 := hP.same s14
      obtain ⟨dx, d, n, q, us, pl, x, _, up, m⟩ := id P4
      refine ⟨_, rfl, p, Cp, dx, _, _, rfl, x.o, TP.ins.cl, TP.nN, flP_n d n q, n, _, rfl, .inr ⟨x.n.sq, fun D hD => ?_⟩⟩
      refine it_any walk_enumST (fun i H' => Same H4 H' ∧ ∃ kvs : List (Key × V), H' D = some (.dK kvs) ∧ kvs.length ≤ i ∧ ∀ z ∈ (rs.map Pr.name).take i, ∃ t, valV kvs (Sum.inr z) = some (.ref t) ∧ ItA K H' t (calmN rs z))
        ⟨Same.new hD, [], upd_same, Nat.zero_le _, (by simp)⟩ (fun i H' _ z => (x.n.same z.1).sq) ?_ ?_
      · rintro i y H5 H6 hi ⟨s5, kvs, hD5, l5, v5⟩ ⟨t0, x0, y0, rfl, hT, rfl, e1, e2⟩
        obtain rfl : x0 = .int (0 + (i : Nat)) := (Option.some.inj e1).symm
        have e2 : ((rs.map Pr.name).map V.str)[i]? = some y0 := e2
        rw [List.getElem?_map] at e2
        obtain ⟨z, hz, rfl⟩ := Option.map_eq_some_iff.mp e2
        rw [Int.zero_add]
        rw [List.length_map, List.length_map] at hi
        have s6 := s5.trans (Same.new (o := .tup [.int (i : Nat), .str z]) hT)
        have hD6 := (Same.new (o := .tup [.int (i : Nat), .str z]) hT) _ _ hD5
        have v6 : ∀ z2 ∈ (rs.map Pr.name).take i, ∃ t, valV kvs (Sum.inr z2) = some (.ref t) ∧ ItA K (upd H5 t0 (.tup [.int (i : Nat), .str z])) t (calmN rs z2) := fun z2 hz2 => let ⟨t, a, b⟩ := v5 z2 hz2; ⟨t, a, b.same (Same.new hT)⟩
        have h0 : (upd H5 t0 (.tup [.int (i : Nat), .str z])) t0 = some (.tup [.int (i : Nat), .str z]) := upd_same
        generalize upd H5 t0 (.tup [.int (i : Nat), .str z]) = H6 at s6 hD6 v6 h0
        refine ⟨t0, _, rfl, .of h0, rfl, _, _, rfl, _, _, rfl, rfl, rfl, yes_then ?_⟩
        refine ⟨_, rfl, _, rfl, (by show 2 ≤ sizeLine; decide), fun t ht => ?_⟩
        have s7 := Same.new (o := .tup [.str "node", .int (i : Nat)]) ht
        have hD7 := s7 _ _ hD6
        have it : ItA K (upd H6 t (.tup [.str "node", .int (i : Nat)])) t (calmN rs z) := by
          unfold calmN
          rw [fstIx_nd R.nd hz]
          exact .of upd_same
        generalize upd H6 t (.tup [.str "node", .int (i : Nat)]) = H7 at s7 hD7 it
        have sT : SameT H7 (upd H7 D (.dK (putK kvs (Sum.inr z) (.ref t)))) := SameT.putD .refl hD7
        refine ⟨kvs, Sum.inr z, rfl, hD7, by omega, (s6.trans s7).mut hD, _, upd_same, Nat.le_trans (putK_le _ _ _) (by omega), fun z2 hz2 => ?_⟩
        by_cases e : z2 = z
        · subst e
          exact ⟨t, by rw [valV_put, if_pos rfl], sT.tup it⟩
        · have z2m : z2 ∈ (rs.map Pr.name).take i := by
            rw [List.take_add_one, hz] at hz2
            rcases List.mem_append.mp hz2 with h | h
            · exact h
            · exact absurd (List.mem_singleton.mp h) e
          obtain ⟨t2, a, b⟩ := v6 z2 z2m
          exact ⟨t2, by rw [valV_put, if_neg (fun h => e (Sum.inr.inj h))]; exact a, sT.tup (b.same s7)⟩
      · rintro H5 ⟨s5, kvs, hD5, l5, v5⟩
        rw [List.length_map, List.take_length] at v5
        have s45 := s4.trans s5
        have s15 := s14.trans s5
        refine ⟨_, rfl, _, rfl, _, rfl, p, b, so, rs, bs, os, rfl, hP.same s15, N3.same s45, N1'.same s45, fun D2 H6 nD2 nd2 s6 => ?_⟩
        have s16 := s15.trans s6
        refine ⟨_, rfl, _, rfl, _, rfl, p, dv, D, rs, val, calmN rs, rfl, hP.same s16, V3.same (s45.trans s6), NodD.same ⟨kvs, hD5, v5⟩ s6, fun a1 H7 na1 ra1 s7 => ?_⟩
        have s17 := s16.trans s7
        refine ⟨_, rfl, _, rfl, _, rfl, p, dv, D2, rs, val, nodP rs bs os, rfl, hP.same s17, V3.same ((s45.trans s6).trans s7), nd2.same s7, fun a2 H8 na2 ra2 s8 => ?_⟩
        obtain ⟨us1, ha1, p1⟩ := ra1.same s8
        obtain ⟨us2, ha2, p2⟩ := ra2
        have l1 := Paired.length p1
        have l2 := Paired.length p2
        rw [List.length_map] at l1 l2
        refine ⟨a1, a2, _, _, rfl, rfl, ha1, ha2, by rw [List.length_map, List.length_map]; omega, fun rw_ nrw => ?_⟩
        have s9 := Same.new (o := .lst (us1.map V.ref ++ us2.map V.ref)) nrw
        have LR : LisR K (upd H8 rw_ (.lst (us1.map V.ref ++ us2.map V.ref))) rw_ (us1 ++ us2) (plainR rs val bs os) :=
          ⟨by rw [upd_same, List.map_append], paired_app (paired_same p1 fun _ _ z => RowL.same (u := _) z s9) (paired_same p2 fun _ _ z => RowL.same z s9)⟩
        generalize upd H8 rw_ (.lst (us1.map V.ref ++ us2.map V.ref)) = H9 at s9 LR
        have nd9 := (nd2.same (s7.trans s8)).same s9
        obtain ⟨kv2, hD2', at2⟩ := nd9
        obtain ⟨t2, ht2, it2⟩ := at2 nm hnm
        have nodnm : nodP rs bs os nm = .nd (stP rs os nm) := by unfold nodP stP; rw [e]; rfl
        rw [nodnm] at it2
        have s19 := (s17.trans s8).trans s9
        refine ⟨rfl, _, rfl, _, rfl, _, rfl, D2, .ref t2, rfl, .inl ⟨kv2, Sum.inr nm, .inl hD2', rfl, ht2.symm⟩, t2, _, (1 : Nat), _, rfl, rfl, it2, rfl, ?_⟩
        refine ⟨.ref rw_, plainR rs val bs os, stP rs os nm, rfl, LR.rows, plainR_ok R, by rw [plainR_len]; exact stP_lt hnm, fun r dx2 d2 us3 H10 A10 nr nd3 nus s10 => ?_⟩
        exact kQ r dx2 d2 us3 H10 A10 (s19.free nr) (s19.free nd3) (fun u hu => ⟨(nus u hu).1, s19.free (nus u hu).2⟩) (s19.trans s10)
    · refine ⟨_, rfl, rfl, true, rfl, iteT ?_⟩
      have s14 := s13.trans s4
      refine ⟨_, rfl, _, rfl, t, _, (0 : Nat), _, rfl, rfl, .of ht, rfl, _, rfl, t, _, (1 : Nat), _, rfl, rfl, .of ht, rfl, ?_⟩
      exact mk_ini3 fun d H' nd s5 hd => kE pa dd e d u H' (s14.free nd) (s14.trans s5) hd (s5.tup sq)
end
end Mf
namespace Mf
open PySem L2
section
variable {P : Program} {w : World} {K : PySem.W.Frag} {mg : Str → Option Value} {base : Heap} {Cp C : Addr}
/-! ### _law_subset -/
def spSubset (K : PySem.W.Frag) : Sp := fun vs H Q _ => ∃ (a r : Addr) (zs : List Str) (n : Nat), vs = [.ref a, .ref r] ∧ r ≠ a ∧ SqL K H r (zs.map V.str) ∧ zs.length ≤ 1000 ∧ Src H a (n + zs.length) ∧
  ∀ (p : Addr) (ys : List Str) (H' : Hp), ys.Sublist zs → H p = none → H' p = some (.lst (ys.map V.str)) → Kp a H H' → Src H' a n → Q (.ref p) H'
abbrev sSubset : Stmt := top 67
theorem scSubset : FnScope ["_law_source_here", "_law_row", "_law_one"] ["_law_source_here", "_law_row"] (defScope sSubset) := ⟨rfl, rfl, rfl, by decide +kernel, rfl, by decide +kernel, by decide +kernel⟩
theorem ok_subset {f : Addr} {fd : FuncData} (F : Fun K "_law_subset" "_law_subset" sSubset f fd) (c_draw : Cal P w K mg base CX0 1 "_law_draw" psD spDraw) : FnOk P w K mg base CX0 2 f fd ["_law_source_here", "_law_row"] (spSubset K) := by
  refine F.ok scSubset (fun vs H Q E h => ?_) (fun cdv A outer s H vs Q E hr h => ?_)
  · obtain ⟨a, r, zs, n, rfl, _⟩ := h
    rfl
  · obtain ⟨a, r, zs, n, rfl, ra, hz, hl, S, k⟩ := h
    have hr_draw := hr
    refine ⟨_, (pss_one (ps_ret (pe_lc (own := [("_law_one", 2)]) (g := (gName 2)) rfl scSubset.nd (pi_list (pv 1)) (blkOk_by (own := [("_law_one", 2)]) (N := ["_law_source_here", "_law_row", "_law_one"]) (sc := defScope sSubset) (by decide +kernel)) (fun _ _ _ _ _ => (pg_name (i := 2) scSubset.nd rfl (by first | exact Or.inl rfl | exact Or.inr rfl))) (fun _ _ _ _ _ => pts_one (pt_cmpR op_eq (pe_cal c_draw hr_draw pass0 (pa_cons (pv 0) (pa_cons pe_int pa_nil))) pe_int (nomark _))) (fun _ _ _ _ _ => (pv 2))))), ?_⟩
    refine ⟨_, rfl, r, rfl, ⟨_, hz⟩, fun D hD => ?_⟩
    have Da : D ≠ a := S.ne hD
    refine lc_it walk_list (fun i H' => ∃ ys : List Str, ys.Sublist (zs.take i) ∧ H' D = some (.lst (ys.map V.str)) ∧ Kp a H H' ∧ Src H' a (n + (zs.length - i))) ⟨[], List.Sublist.refl _, upd_same, Kp.new hD, S.new hD⟩ (fun i H' _ q => q.choose_spec.2.2.1.lst ra hz) ?_ ?_
    · rintro i x H1 _ hi ⟨ys, sb, h1, k1, S1⟩ ⟨rfl, hx⟩
      rw [List.getElem?_map] at hx
      obtain ⟨z, hz', rfl⟩ := Option.map_eq_some_iff.mp hx
      rw [List.length_map] at hi
      have tk : zs.take (i + 1) = zs.take i ++ [z] := by rw [List.take_add_one, hz']; rfl
      refine ⟨rfl, _, rfl, a, 2, n + (zs.length - (i + 1)), rfl, by decide, by decide, S1.mono (by omega), fun v H2 v0 v1 k2 S2 => ⟨rfl, _, rfl, ite2 (fun _ => ?_) fun _ => ?_⟩⟩
      · refine ⟨_, rfl, _, k2 _ _ Da h1, ?_, ys ++ [z], by rw [tk]; exact List.Sublist.append sb (List.Sublist.refl _), by rw [upd_same, List.map_append]; rfl, (k1.trans k2).mut hD, S2.put Da⟩
        rw [List.length_map]
        have q := sb.length_le
        rw [List.length_take] at q
        exact Nat.lt_of_lt_of_le (by omega : ys.length < 1001) (by decide)
      · exact ⟨ys, by rw [tk]; exact sb.trans (List.sublist_append_left _ _), k2 _ _ Da h1, k1.trans k2, S2⟩
    · rintro H1 ⟨ys, sb, h1, k1, S1⟩
      rw [List.length_map, List.take_length] at sb
      exact k D ys H1 sb hD h1 k1 (S1.mono (by omega))

end
end Mf
namespace Mf
open PySem L2
section
variable {P : Program} {w : World} {K : PySem.W.Frag} {mg : Str → Option Value} {base : Heap} {Cp C : Addr}
/-! ### what is bad -/
/-- the places that a step in a body of a set of names reads -/
def ReadIn (x : List Pc) (y d : Str) : Prop := ∃ ss, (y, ss) ∈ x ∧ d ∈ readsIn ss

def callsIn (ss : List Step) : List Str := (ss.filter fun s => decide (s.1 = ("call" : Str))).map (·.2)
/-- bad by itself or by a call -/
def OkR (hurt safe B : List Str) (r : Pr) : Prop := r.name ∈ safe ∨ r.name ∈ B ∨ ((∀ d ∈ readsIn r.ss, ¬ d ∈ hurt) ∧ ∀ z ∈ callsIn r.ss, ¬ z ∈ B)
def Bad (x : List Pc) (hurt safe : List Str) (y : Str) : Prop := ∃ z, Rch (Suc x requiring) (· ∈ safe) (· ∈ [y]) z ∧ ∃ d, ReadIn x z d ∧ d ∈ hurt
theorem rch_head {S : Str → Str → Prop} {out : Str → Prop} {y z : Str} (h : Rch S out (· ∈ [y]) z) : ¬ out y :=
  (h.sub (fl := fun _ => ¬ out y) (fun z m n => by rw [List.mem_singleton.mp m] at n; exact n) fun _ _ a _ _ => a)
theorem rch_last {S : Str → Str → Prop} {out st : Str → Prop} {z : Str} (h : Rch S out st z) : ¬ out z := by
  cases h with
  | base h n => exact n
  | step h s n => exact n
theorem callsIn_mem {ss : List Step} {z : Str} : z ∈ callsIn ss ↔ (("call" : Str), z) ∈ ss := by
  constructor
  · intro h
    obtain ⟨s, hs, e⟩ := List.mem_map.mp h
    have := of_decide_eq_true (List.mem_filter.mp hs).2
    rw [show (("call" : Str), z) = s from by rw [← e, ← this]]
    exact (List.mem_filter.mp hs).1
  · intro h
    exact List.mem_map.mpr ⟨_, List.mem_filter.mpr ⟨h, decide_eq_true rfl⟩, rfl⟩
theorem suc_call {x : List Pc} {ss : List Step} {y z : Str} (nd : (x.map (·.1)).Nodup) (h : (y, ss) ∈ x) : Suc x requiring y z ↔ z ∈ callsIn ss := by
  rw [Suc.one nd h, callsIn_mem]
  constructor
  · rintro ⟨s, hs, h1, rfl⟩
    rw [show (("call" : Str), s.2) = s from by rw [← List.mem_singleton.mp h1]]
    exact hs
  · intro h
    exact ⟨_, h, List.mem_singleton.mpr rfl, rfl⟩
theorem read_one {x : List Pc} {ss : List Step} {y d : Str} (nd : (x.map (·.1)).Nodup) (h : (y, ss) ∈ x) : ReadIn x y d ↔ d ∈ readsIn ss :=
  ⟨fun ⟨tt, h1, h2⟩ => by rw [pc_one nd h h1] at h2; exact h2, fun h2 => ⟨ss, h, h2⟩⟩
/-- closed lists hold all that is bad -/
theorem bad_in {rs : List Pr} {hurt safe B : List Str} (R : RightP rs) (cl : ∀ r ∈ rs, OkR hurt safe B r) {y : Str} (hy : y ∈ rs.map Pr.name) (b : Bad (pls rs) hurt safe y) : y ∈ B := by
  have nd : ((pls rs).map (·.1)).Nodup := by rw [pls_names]; exact R.nd
  obtain ⟨z, hz, d, hd, hh⟩ := b
  have zin : z ∈ rs.map Pr.name := rch_in R (kds := requiring) (by decide +kernel) (fun u hu => by rw [List.mem_singleton.mp hu]; exact hy) hz
  have zB : z ∈ B := by
    obtain ⟨r, hr, rfl⟩ := List.mem_map.mp zin
    rcases cl r hr with q | q | q
    · exact absurd q (rch_last hz)
    · exact q
    · exact absurd hh (q.1 d ((read_one nd (List.mem_map.mpr ⟨r, hr, rfl⟩)).mp hd))
  have key : z ∈ B → y ∈ B := by
    have : Rch (Suc (pls rs) requiring) (· ∈ safe) (· ∈ [y]) z ∧ (z ∈ B → y ∈ B) := by
      refine hz.sub (fl := fun z => Rch (Suc (pls rs) requiring) (· ∈ safe) (· ∈ [y]) z ∧ (z ∈ B → y ∈ B)) (fun u hu n => ⟨.base hu n, fun h => by rw [List.mem_singleton.mp hu] at h; exact h⟩) fun u v ⟨hu, ih⟩ s n => ⟨.step hu s n, fun hv => ih ?_⟩
      have uin : u ∈ rs.map Pr.name := rch_in R (kds := requiring) (by decide +kernel) (fun u hu => by rw [List.mem_singleton.mp hu]; exact hy) hu
      obtain ⟨r, hr, rfl⟩ := List.mem_map.mp uin
      rcases cl r hr with q | q | q
      · exact absurd q (rch_last hu)
      · exact q
      · exact absurd hv (q.2 v ((suc_call nd (List.mem_map.mpr ⟨r, hr, rfl⟩)).mp s))
    exact this.2
  exact key zB
/-- what is put in is bad -/
theorem bad_new {rs : List Pr} {hurt safe B : List Str} (R : RightP rs) (sound : ∀ z ∈ B, Bad (pls rs) hurt safe z) {r : Pr} (hr : r ∈ rs) (ns : ¬ r.name ∈ safe) (f : (∃ d ∈ readsIn r.ss, d ∈ hurt) ∨ ∃ z ∈ callsIn r.ss, z ∈ B) : Bad (pls rs) hurt safe r.name := by
  have nd : ((pls rs).map (·.1)).Nodup := by rw [pls_names]; exact R.nd
  have hp : (r.name, r.ss) ∈ pls rs := List.mem_map.mpr ⟨r, hr, rfl⟩
  rcases f with ⟨d, h1, h2⟩ | ⟨z, h1, h2⟩
  · exact ⟨r.name, .base (List.mem_singleton.mpr rfl) ns, d, (read_one nd hp).mpr h1, h2⟩
  · obtain ⟨u, hu, d, hd, hh⟩ := sound z h2
    refine ⟨u, ?_, d, hd, hh⟩
    refine hu.mono fun v hv _ => ?_
    rw [List.mem_singleton.mp hv]
    exact .step (.base (List.mem_singleton.mpr rfl) ns) ((suc_call nd hp).mpr h1) (rch_head hu)
end
end Mf
/-! What the paths found are: the keys are what can be reached; failing by what is reached. -/
namespace Mf
open PySem L2
abbrev keysP (ac : List Pa) : List Str := ac.map fun e => e.1
theorem putP_nd {kds out path : List Str} {acc : List Pa} (s : Step) (h : (keysP acc).Nodup) : (keysP (putP kds out path acc s)).Nodup := by
  unfold putP
  split
  · rename_i c
    unfold keysP
    rw [List.map_append, List.nodup_append]
    refine ⟨h, by simp, fun a ha b hb e => c.2.2 ?_⟩
    have hb : b = s.2 := List.mem_singleton.mp hb
    rw [← hb, ← e]; exact ha
  · exact h
theorem visP_nd {kds out path : List Str} : ∀ {ss : List Step} {acc : List Pa}, (keysP acc).Nodup → (keysP (visP kds out path acc ss)).Nodup
  | [], _, h => h
  | s :: ss, _, h => visP_nd (ss := ss) (putP_nd s h)
theorem growP_nd {body : Str → List Step} {kds out : List Str} : ∀ {n j : Nat} {acc : List Pa}, (keysP acc).Nodup → (keysP (growP body kds out n j acc)).Nodup
  | 0, _, _, h => h
  | n + 1, j, acc, h => by
    cases e : acc[j]? with
    | none => unfold growP; rw [e]; exact h
    | some y => rw [growP_step e]; exact growP_nd (visP_nd h)
/-- all that e's steps lead to is among the keys -/
def ClP (body : Str → List Step) (kds out : List Str) (acc : List Pa) (e : Pa) : Prop := ∀ s ∈ body e.1, s.1 ∈ kds → ¬ s.2 ∈ out → s.2 ∈ keysP acc
theorem ClP.mono {body : Str → List Step} {kds out : List Str} {acc : List Pa} {e : Pa} (h : ClP body kds out acc e) (t : List Pa) : ClP body kds out (acc ++ t) e := fun s a b c => by
  unfold keysP; rw [List.map_append]; exact List.mem_append_left _ (h s a b c)
theorem putP_in {kds out path : List Str} {acc : List Pa} {s : Step} (a : s.1 ∈ kds) (b : ¬ s.2 ∈ out) : s.2 ∈ keysP (putP kds out path acc s) := by
  unfold putP
  split
  · unfold keysP; rw [List.map_append]; exact List.mem_append_right _ (List.mem_singleton.mpr rfl)
  · rename_i c
    exact Classical.byContradiction fun n => c ⟨a, b, n⟩
theorem visP_in {kds out path : List Str} : ∀ {ss : List Step} {acc : List Pa}, ∀ s ∈ ss, s.1 ∈ kds → ¬ s.2 ∈ out → s.2 ∈ keysP (visP kds out path acc ss)
  | s0 :: ss, acc, s, hs, a, b => by
    show s.2 ∈ keysP (visP kds out path (putP kds out path acc s0) ss)
    rcases List.mem_cons.mp hs with e | hs
    · subst e
      obtain ⟨t, ht⟩ := visP_pre (kds := kds) (out := out) (path := path) ss (putP kds out path acc s)
      rw [ht]
      unfold keysP; rw [List.map_append]
      exact List.mem_append_left _ (putP_in a b)
    · exact visP_in s hs a b
theorem growP_done {body : Str → List Step} {kds out : List Str} : ∀ {n j : Nat} {acc : List Pa}, (∀ i e, i < j → acc[i]? = some e → ClP body kds out acc e) → (growP body kds out n j acc).length ≤ n + j → ∀ e ∈ growP body kds out n j acc, ClP body kds out (growP body kds out n j acc) e
  | 0, j, acc, h, l => fun e he => by
    obtain ⟨i, hi⟩ := List.mem_iff_getElem?.mp he
    have l : acc.length ≤ 0 + j := l
    have := (List.getElem?_eq_some_iff.mp hi).1
    have this : i < acc.length := this
    exact h i e (by omega) hi
  | n + 1, j, acc, h, l => by
    cases e : acc[j]? with
    | none =>
      unfold growP
      rw [e]
      intro y hy
      obtain ⟨i, hi⟩ := List.mem_iff_getElem?.mp hy
      have a : i < acc.length := (List.getElem?_eq_some_iff.mp hi).1
      have b : acc.length ≤ j := List.getElem?_eq_none_iff.mp e
      exact h i y (by omega) hi
    | some y =>
      rw [growP_step e] at l ⊢
      refine growP_done (fun i z hi hz => ?_) (Nat.le_trans l (by omega))
      obtain ⟨t, ht⟩ := visP_pre (kds := kds) (out := out) (path := y.2) (body y.1) acc
      by_cases q : i = j
      · subst q
        have jl := (List.getElem?_eq_some_iff.mp e).1
        rw [ht, List.getElem?_append_left jl, e] at hz
        cases hz
        exact fun s a b c => visP_in s a b c
      · have hij : i < j := by omega
        have jl := (List.getElem?_eq_some_iff.mp e).1
        have hz' := hz
        rw [ht, List.getElem?_append_left (by omega)] at hz'
        rw [ht]
        exact (h i z hij hz').mono t
theorem startP_keys {out sts : List Str} : keysP (startP out sts) = sts.filter fun z => decide (¬ z ∈ out) := by
  unfold keysP startP
  rw [List.map_map]
  exact List.map_id _
structure PcOk (x : List Pc) (kds : List Str) : Prop where
  nd : (x.map fun p => p.1).Nodup
  few : x.length ≤ 16
  ca : ∀ p ∈ x, ∀ s ∈ p.2, s.1 ∈ kds → s.2 ∈ x.map fun p => p.1
theorem PcOk.body {x : List Pc} {kds : List Str} (h : PcOk x kds) {y : Str} {s : Step} (hs : s ∈ bodyOf x y) : ∃ ss, (y, ss) ∈ x ∧ s ∈ ss := by
  by_cases m : y ∈ x.map fun p => p.1
  · obtain ⟨p, hp, rfl⟩ := List.mem_map.mp m
    rw [bodyOf_mem h.nd (show (p.1, p.2) ∈ x from hp)] at hs
    exact ⟨p.2, hp, hs⟩
  · rw [bodyOf_no m] at hs; cases hs
theorem paths_nd {x : List Pc} {kds out sts : List Str} (nds : sts.Nodup) : (keysP (pathsN x kds out sts)).Nodup := growP_nd (by rw [startP_keys]; exact nds.filter _)
theorem paths_in {x : List Pc} {kds out sts : List Str} (ok : PcOk x kds) (hs : ∀ z ∈ sts, z ∈ x.map fun p => p.1) : ∀ e ∈ pathsN x kds out sts, e.1 ∈ x.map fun p => p.1 := by
  refine growP_all (p := fun e => e.1 ∈ x.map fun p => p.1) (fun e _ s hs a _ => ?_) fun e he => ?_
  · obtain ⟨ss, h1, h2⟩ := ok.body hs
    exact ok.ca _ h1 s h2 a
  · obtain ⟨z, hz, rfl⟩ := List.mem_map.mp he
    exact hs z (List.mem_filter.mp hz).1
theorem paths_len {x : List Pc} {kds out sts : List Str} (ok : PcOk x kds) (nds : sts.Nodup) (hs : ∀ z ∈ sts, z ∈ x.map fun p => p.1) : (pathsN x kds out sts).length ≤ 16 := by
  have a := nodup_le (paths_nd (x := x) (kds := kds) (out := out) nds) (m := x.map fun p => p.1) fun z hz => by
    obtain ⟨e, he, rfl⟩ := List.mem_map.mp hz
    exact paths_in ok hs e he
  unfold keysP at a
  rw [List.length_map, List.length_map] at a
  exact Nat.le_trans a ok.few
theorem paths_mem {x : List Pc} {kds out sts : List Str} (ok : PcOk x kds) (nds : sts.Nodup) (hs : ∀ z ∈ sts, z ∈ x.map fun p => p.1) (z : Str) : z ∈ keysP (pathsN x kds out sts) ↔ Rch (Suc x kds) (· ∈ out) (· ∈ sts) z := by
  constructor
  · intro h
    obtain ⟨e, he, rfl⟩ := List.mem_map.mp h
    refine growP_all (p := fun e => Rch (Suc x kds) (· ∈ out) (· ∈ sts) e.1) (fun e re s hs a b => ?_) (fun e he => ?_) e he
    · obtain ⟨ss, h1, h2⟩ := ok.body hs
      exact .step re ⟨ss, h1, s, h2, a, rfl⟩ b
    · obtain ⟨z, hz, rfl⟩ := List.mem_map.mp he
      exact .base (List.mem_filter.mp hz).1 (by simpa using (List.mem_filter.mp hz).2)
  · intro h
    have cl := growP_done (body := bodyOf x) (kds := kds) (out := out) (n := 17) (j := 0) (acc := startP out sts) (fun i e hi => absurd hi (Nat.not_lt_zero _)) (Nat.le_trans (paths_len ok nds hs) (by decide))
    refine h.sub (fl := fun z => z ∈ keysP (pathsN x kds out sts)) (fun z a b => ?_) fun y z hy sz no => ?_
    · obtain ⟨t, ht⟩ := growP_pre (body := bodyOf x) (kds := kds) (out := out) 17 0 (startP out sts)
      show z ∈ keysP (growP (bodyOf x) kds out 17 0 (startP out sts))
      rw [ht]
      unfold keysP
      rw [List.map_append]
      refine List.mem_append_left _ ?_
      have := startP_keys (out := out) (sts := sts)
      unfold keysP at this
      rw [this]
      exact List.mem_filter.mpr ⟨a, by simpa using b⟩
    · obtain ⟨e, he, rfl⟩ := List.mem_map.mp hy
      obtain ⟨ss, h1, s, h2, a, rfl⟩ := sz
      exact cl e he s (by rw [bodyOf_mem ok.nd h1]; exact h2) a no
/-! ### failing -/
theorem firstRead_none {br : List Str} {ss : List Step} : firstRead br ss = none ↔ ∀ s ∈ ss, s.1 = ("read" : Str) → ¬ s.2 ∈ br := by
  unfold firstRead
  rw [Option.map_eq_none_iff, List.find?_eq_none]
  constructor
  · intro h s hs e m
    have := h s hs
    simp [e, m] at this
  · intro h s hs
    by_cases e : s.1 = ("read" : Str)
    · simp [e, h s hs e]
    · simp [e]
theorem failIn_none {x : List Pc} {br : List Str} : ∀ {ac : List Pa}, failIn x br ac = none ↔ ∀ e ∈ ac, firstRead br (bodyOf x e.1) = none
  | [] => ⟨(fun _ _ h => nomatch h), (fun _ => rfl)⟩
  | e :: es => by
    unfold failIn
    cases q : firstRead br (bodyOf x e.1) with
    | some d => simp [q]
    | none => simp [q, failIn_none (ac := es)]
theorem failIn_app {x : List Pc} {br : List Str} : ∀ {ac bc : List Pa}, failIn x br ac = none → failIn x br (ac ++ bc) = failIn x br bc
  | [], _, _ => rfl
  | e :: es, bc, h => by
    have h' := failIn_none.mp h
    have q := h' e List.mem_cons_self
    show (match firstRead br (bodyOf x e.1) with | some d => some (e.2, d) | none => failIn x br (es ++ bc)) = _
    rw [q]
    exact failIn_app (failIn_none.mpr fun y hy => h' y (List.mem_cons_of_mem _ hy))
theorem failIn_hit {x : List Pc} {br : List Str} {e : Pa} {es : List Pa} {d : Str} (h : firstRead br (bodyOf x e.1) = some d) : failIn x br (e :: es) = some (e.2, d) := by
  unfold failIn
  rw [h]
end Mf
namespace Mf
open PySem L2
theorem firstRead_reads {br : List Str} : ∀ ss : List Step, firstRead br ss = (readsIn ss).find? fun d => decide (d ∈ br)
  | [] => rfl
  | s :: ss => by
    have ih := firstRead_reads (br := br) ss
    unfold firstRead readsIn at ih ⊢
    by_cases e : s.1 = ("read" : Str)
    · by_cases m : s.2 ∈ br
      · simp [List.find?, e, m]
      · simp only [List.find?_cons, e, decide_true, Bool.true_and, decide_eq_false m, List.filter_cons, if_true, List.map_cons]
        exact ih
    · simp only [List.find?_cons, decide_eq_false e, Bool.false_and, List.filter_cons, Bool.false_eq_true, if_false]
      exact ih
/-! ### failing is being bad -/
theorem RightP.pc {rs : List Pr} (R : RightP rs) {kds : List Str} (h : ∀ k ∈ kds, k ∈ calling) : PcOk (pls rs) kds := by
  refine ⟨by rw [pls_names]; exact R.nd, by unfold pls; rw [List.length_map]; exact R.few, fun p hp s hs hk => ?_⟩
  obtain ⟨r, hr, rfl⟩ := List.mem_map.mp hp
  rw [pls_names]
  exact R.ca r hr s hs (h _ hk)
theorem req_calling : ∀ k ∈ requiring, k ∈ calling := by decide +kernel
theorem fail_bad {rs : List Pr} (R : RightP rs) {y : Str} {hurt safe : List Str} (hy : y ∈ rs.map Pr.name) : failN (pls rs) y hurt safe = none ↔ ¬ Bad (pls rs) hurt safe y := by
  have ok := R.pc req_calling
  have mem := paths_mem ok (out := safe) (sts := [y]) (by simp) (fun z hz => by rw [List.mem_singleton.mp hz, pls_names]; exact hy)
  unfold failN
  rw [failIn_none]
  constructor
  · rintro h ⟨z, hz, d, ⟨ss, h1, h2⟩, hd⟩
    obtain ⟨e, he, rfl⟩ := List.mem_map.mp ((mem z).mpr hz)
    have q := h e he
    rw [bodyOf_mem ok.nd h1, firstRead_reads, List.find?_eq_none] at q
    simpa [hd] using q d h2
  · intro h e he
    rw [firstRead_reads, List.find?_eq_none]
    intro d hd
    have : ¬ d ∈ hurt := fun m => h ⟨e.1, (mem e.1).mp (List.mem_map.mpr ⟨e, he, rfl⟩), d, ?_, m⟩
    · simpa using this
    · by_cases c : e.1 ∈ (pls rs).map fun p => p.1
      · obtain ⟨p, hp, ep⟩ := List.mem_map.mp c
        refine ⟨p.2, ?_, ?_⟩
        · rw [← ep]; exact hp
        · rw [← ep, bodyOf_mem ok.nd (show (p.1, p.2) ∈ pls rs from hp)] at hd; exact hd
      · rw [bodyOf_no c] at hd; cases hd
end Mf
namespace Mf
open PySem L2
theorem ItA.kp {K : PySem.W.Frag} {H H' : Hp} {a t : Addr} {it : Itm} {n : Nat} (x : ItA K H t it) (k : Kp a H H') (S : Src H a n) : ItA K H' t it := by
  obtain ⟨_, _, _, e, _⟩ := S
  rcases x with (h | ⟨o, h⟩) | h
  · exact .inl (.inl (k _ _ (ne_of h e (by intro z; cases z)) h))
  · exact .inl (.inr ⟨o, k _ _ (ne_of h e (by intro z; cases z)) h⟩)
  · exact .inr h
theorem RowL.kp {K : PySem.W.Frag} {H H' : Hp} {a u : Addr} {row : List Itm} {n : Nat} (x : RowL K H u row) (k : Kp a H H') (S : Src H a n) : RowL K H' u row := let ⟨ts, h1, h2⟩ := x; ⟨ts, k _ _ (refs_ne S h1) h1, paired_same h2 fun _ _ z => z.kp k S⟩
theorem LisR.kp {K : PySem.W.Frag} {H H' : Hp} {a p : Addr} {us : List Addr} {R : List (List Itm)} {n : Nat} (x : LisR K H p us R) (k : Kp a H H') (S : Src H a n) : LisR K H' p us R := ⟨k _ _ (refs_ne S x.1) x.1, paired_same x.2 fun _ _ z => z.kp k S⟩
theorem Kp.free' {a t : Addr} {H H' : Hp} {m : Nat} (x : Kp a H H') (h : H' t = none) (S' : Src H' a m) : H t = none := by
  cases e : H t with
  | none => rfl
  | some o =>
    have q := x t o (S'.ne h) e
    rw [h] at q; cases q
theorem numB_of {n : Int} (h : n.natAbs < 10 ^ 60) : numB n = true := decide_eq_true h
theorem p59 : ∃ M : Nat, (10 ^ 60 : Nat) = 10 * M ∧ (10 : Int) ^ (59 : Int).toNat = M ∧ (10 : Int) ^ (60 : Int).toNat = 10 * (M : Int) ∧ 1000000 < M ∧ (2 * M).log2 < 200 ∧ 2 * M < 2 ^ 200 := ⟨10 ^ 59, by decide +kernel, by decide +kernel, by decide +kernel, by decide +kernel, by decide +kernel, by decide +kernel⟩
theorem num3 {v : Int} (h0 : 0 ≤ v) (h : v < 3) : ∃ n : Int, atI [V.int 0, V.int 1, V.int 7] v = some (.int n) ∧ numB n = true := by
  have c : v = 0 ∨ v = 1 ∨ v = 2 := by omega
  rcases c with rfl | rfl | rfl
  · exact ⟨0, rfl, by decide +kernel⟩
  · exact ⟨1, rfl, by decide +kernel⟩
  · exact ⟨7, rfl, by decide +kernel⟩
theorem atI_strs {zs : List Str} {v : Int} (h0 : 0 ≤ v) (h : v < zs.length) : ∃ z ∈ zs, atI (zs.map V.str) v = some (.str z) := by
  obtain ⟨x, hx, e⟩ := atI_mem (xs := zs.map V.str) h0 (by rw [List.length_map]; exact h)
  obtain ⟨z, hz, rfl⟩ := List.mem_map.mp hx
  exact ⟨z, hz, e⟩
theorem itB_mono {c c' : Nat} (h : c ≤ c') {it : Itm} (b : itB c it = true) : itB c' it = true := by
  cases it with
  | nd i => exact decide_eq_true (Nat.lt_of_lt_of_le (of_decide_eq_true b) h)
  | _ => exact b
section
variable {P : Program} {w : World} {K : PySem.W.Frag} {mg : Str → Option Value} {base : Heap}
abbrev psD' : List Str := ["_law_source_here", "_law_many"]
/-! ### _law_number -/
def spLNum : Sp := fun vs H Q _ => ∃ (a : Addr) (m : Nat), vs = [.ref a] ∧ Src H a (m + 2) ∧ ∀ n H', numB n = true → Kp a H H' → Src H' a m → Q (.int n) H'
abbrev sNumber : Stmt := top 68
theorem scNumber : FnScope ["_law_source_here", "_law_digit"] ["_law_source_here"] (defScope sNumber) := ⟨rfl, rfl, rfl, by decide +kernel, rfl, by decide +kernel, by decide +kernel⟩
theorem ok_lnum {f : Addr} {fd : FuncData} (F : Fun K "_law_number" "_law_number" sNumber f fd) (c_draw : Cal P w K mg base CX0 1 "_law_draw" ["_law_source_here", "_law_many"] spDraw) : FnOk P w K mg base CX0 2 f fd ["_law_source_here"] spLNum := by
  refine F.ok scNumber (fun vs H Q E h => ?_) (fun cdv A outer s H vs Q E hr h => ?_)
  · obtain ⟨a, m, rfl, _⟩ := h
    rfl
  · obtain ⟨a, m, rfl, S, k⟩ := h
    have hr_draw := hr
    refine ⟨_, (pss_cons (ps_set (i := 1) scNumber.nd rfl (by first | exact Or.inl rfl | exact Or.inr rfl) (pe_cal c_draw hr_draw pass0 (pa_cons (pv 0) (pa_cons pe_int pa_nil))))
      (pss_cons (ps_if (pt_cmpR op_lt (pv 1) pe_int (nomark _))
        (pss_one (ps_ret (pe_ix (ixl K) (pe_lst (pa_cons pe_int (pa_cons pe_int (pa_cons pe_int pa_nil)))) (pv 1) (fun _ _ => rfl)))) pss_nil)
      (pss_cons (ps_if (pt_cmpR op_eq (pv 1) pe_int (nomark _))
        (pss_one (ps_ret (pe_op op_sub (pe_cal c_draw hr_draw pass0 (pa_cons (pv 0) (pa_cons (pe_op op_mul pe_int (pe_op op_pow pe_int pe_int)) pa_nil))) (pe_op op_pow pe_int pe_int)))) pss_nil)
      (pss_cons (ps_if (pt_cmpR op_eq (pv 1) pe_int (nomark _))
        (pss_one (ps_ret (pe_op op_sub (pe_op op_sub (pe_op op_pow pe_int pe_int) pe_int) (pe_cal c_draw hr_draw pass0 (pa_cons (pv 0) (pa_cons pe_int pa_nil)))))) pss_nil)
      (pss_one (ps_ret (pe_op op_sub (pe_op op_add (pe_cal c_draw hr_draw pass0 (pa_cons (pv 0) (pa_cons pe_int pa_nil))) pe_int) (pe_op op_pow pe_int pe_int)))))))), ?_⟩
    obtain ⟨M, e60, e59i, e60i, bM, _, b2⟩ := p59
    refine ⟨_, rfl, a, 6, m + 1, rfl, by decide, by decide, S, fun v H1 v0 v1 k1 S1 => ?_⟩
    refine ⟨_, rfl, _, _, rfl, rfl, _, rfl, ite2 (fun q => ?_) fun q => ?_⟩
    · have v3 := of_decide_eq_true q
      obtain ⟨n, e, b⟩ := num3 v0 v3
      refine ⟨(by show 3 ≤ sizeLine; decide), fun l hl => ⟨_, rfl, l, _, v, _, rfl, rfl, .of upd_same, e, k n _ b (k1.trans (Kp.new hl)) ((S1.mono (by omega)).new hl)⟩⟩
    · refine ⟨_, rfl, rfl, _, rfl, ite2 (fun q => ?_) fun q => ?_⟩
      · refine ⟨_, rfl, _, _, rfl, rfl, ⟨by decide, by decide, by decide⟩, _, _, rfl, rfl, .inl ⟨by decide, by decide⟩, ?_⟩
        rw [e59i]
        refine ⟨a, 2 * (M : Int), m, rfl, by omega, ?_, S1, fun u H2 u0 u1 k2 S2 => ?_⟩
        · rw [show (2 * (M : Int)).natAbs = 2 * M by omega]; exact b2
        · refine ⟨_, _, rfl, rfl, ⟨by decide, by decide, by decide⟩, _, _, rfl, rfl, ?_⟩
          rw [e59i]
          exact k _ H2 (numB_of (by rw [e60]; omega)) (k1.trans k2) S2
      · refine ⟨_, rfl, rfl, _, rfl, ite2 (fun q => ?_) fun q => ?_⟩
        · refine ⟨_, _, rfl, rfl, ⟨by decide, by decide, by decide⟩, _, _, rfl, rfl, _, rfl, a, 3, m, rfl, by decide, by decide, S1, fun u H2 u0 u1 k2 S2 => ⟨_, _, rfl, rfl, ?_⟩⟩
          rw [e60i]
          exact k _ H2 (numB_of (by rw [e60]; omega)) (k1.trans k2) S2
        · refine ⟨_, rfl, a, 3, m, rfl, by decide, by decide, S1, fun u H2 u0 u1 k2 S2 => ⟨_, _, rfl, rfl, _, _, rfl, rfl, ⟨by decide, by decide, by decide⟩, _, _, rfl, rfl, ?_⟩⟩
          rw [e60i]
          exact k _ H2 (numB_of (by rw [e60]; omega)) (k1.trans k2) S2
/-! ### _law_numbers -/
/-- a dict of numbers for some of the places -/
def NumW (kvs : List (Key × V)) (ps : List Str) (val : Str → Int) : Prop := ∃ ks : List Str, kvs.map (·.1) = ks.map Sum.inr ∧ ks.Nodup ∧ (∀ z ∈ ks, z ∈ ps) ∧ ks.length < 4000 ∧ (∀ p ∈ kvs, ∃ n : Int, p.2 = .int n) ∧ ∀ z, valV kvs (Sum.inr z) = some (.int (val z)) ∨ (valV kvs (Sum.inr z) = none ∧ val z = 0)
theorem NumW.a {kvs : List (Key × V)} {ps : List Str} {val : Str → Int} {H : Hp} {d : Addr} (x : NumW kvs ps val) (h : H d = some (.dK kvs)) : NumA H (.ref d) ps val :=
  let ⟨ks, a, _, b, c, _, e⟩ := x
  .inr ⟨d, kvs, ks, rfl, h, a, b, c, e⟩
def valOf (kvs : List (Key × V)) (z : Str) : Int := match valV kvs (Sum.inr z) with
  | some (.int n) => n
  | _ => 0
theorem valOf_is {kvs : List (Key × V)} (h : ∀ p ∈ kvs, ∃ n : Int, p.2 = .int n) (z : Str) : valV kvs (Sum.inr z) = some (.int (valOf kvs z)) ∨ (valV kvs (Sum.inr z) = none ∧ valOf kvs z = 0) := by
  unfold valOf
  cases e : valV kvs (Sum.inr z) with
  | none => exact .inr ⟨rfl, rfl⟩
  | some v =>
    have e' := e
    unfold valV at e'
    obtain ⟨kv, h1, h2⟩ := Option.map_eq_some_iff.mp e'
    obtain ⟨n, hn⟩ := h kv (List.mem_of_find?_eq_some h1)
    rw [← h2, hn]
    exact .inl rfl
def spNumbers : Sp := fun vs H Q _ => ∃ (a r : Addr) (zs : List Str) (n : Nat), vs = [.ref a, .ref r] ∧ r ≠ a ∧ H r = some (.lst (zs.map V.str)) ∧ zs.Nodup ∧ zs.length ≤ 1000 ∧ Src H a (n + 3 * zs.length) ∧
  ∀ (D : Addr) (kvs : List (Key × V)) (H' : Hp), H D = none → H' D = some (.dK kvs) → NumW kvs zs (valOf kvs) → Kp a H H' → Src H' a n → Q (.ref D) H'
theorem valV_keys {kvs : List (Key × V)} {ks : List Str} (e : kvs.map (·.1) = ks.map Sum.inr) {z : Str} (n : ¬ z ∈ ks) : valV kvs (Sum.inr z) = none := by
  cases q : valV kvs (Sum.inr z) with
  | none => rfl
  | some v =>
    exfalso
    unfold valV at q
    obtain ⟨kv, h1, _⟩ := Option.map_eq_some_iff.mp q
    have h3 : kv.1 ∈ kvs.map (·.1) := List.mem_map.mpr ⟨kv, List.mem_of_find?_eq_some h1, rfl⟩
    have h4 : kv.1 = Sum.inr z := of_decide_eq_true (List.find?_some (p := fun kv : Key × V => decide (kv.1 = Sum.inr z)) h1)
    rw [e, h4] at h3
    obtain ⟨y, hy, e2⟩ := List.mem_map.mp h3
    cases e2
    exact n hy
abbrev sNumbers : Stmt := top 69
theorem scNumbers : FnScope ["_law_source_here", "_law_places", "_law_chosen", "_law_place"] ["_law_source_here", "_law_places"] (defScope sNumbers) := ⟨rfl, rfl, rfl, by decide +kernel, rfl, by decide +kernel, by decide +kernel⟩
theorem ok_numbers {f : Addr} {fd : FuncData} (F : Fun K "_law_numbers" "_law_numbers" sNumbers f fd) (c_draw : Cal P w K mg base CX0 1 "_law_draw" ["_law_source_here", "_law_many"] spDraw) (c_number : Cal P w K mg base CX0 2 "_law_number" ["_law_source_here"] spLNum) : FnOk P w K mg base CX0 3 f fd ["_law_source_here", "_law_places"] spNumbers := by
  refine F.ok scNumbers (fun vs H Q E h => ?_) (fun cdv A outer s H vs Q E hr h => ?_)
  · obtain ⟨a, r, zs, n, rfl, _⟩ := h
    rfl
  · obtain ⟨a, r, zs, n, rfl, ra, hz, nd, l1000, S, k⟩ := h
    have hu : (A.deeper (PyProof.Rows.envOfC "_law_numbers" (defScope sNumbers) s.heap.objs.size f cdv)).units + 1 < cLine := by have := hr.units; omega
    have hr_draw : Room 1 _ := hr.mono (by decide : 1 ≤ 2); have hr_number := hr
    refine ⟨_, (pss_cons (ps_set (i := 2) scNumbers.nd rfl (by first | exact Or.inl rfl | exact Or.inr rfl) pe_dnewK)
      (pss_cons (ps_for PassesOwn.never rfl (pi_list (pv 1)) (pg_name (i := 3) scNumbers.nd rfl (by first | exact Or.inl rfl | exact Or.inr rfl))
        (pss_one (ps_if (pt_cmpR op_gt (pe_cal c_draw hr_draw pass0 (pa_cons (pv 0) (pa_cons pe_int pa_nil))) pe_int (nomark _))
          (pss_one (ps_asg (pe_cal c_number hr_number pass0 (pa_cons (pv 0) pa_nil)) (pg_sub (pv 2) (pv 3) (set_dict hu)))) pss_nil)))
      (pss_one (ps_ret (pv 2))))), ?_⟩
    have sz : (5000 : Nat) < sizeLine := by decide
    intro D nD
    have kD : Kp a H (upd H D (.dK [])) := Kp.new nD
    have Da := S.ne nD
    refine ⟨_, rfl, r, rfl, ⟨_, .of (kD _ _ ra hz)⟩, ?_⟩
    refine for_it walk_list (fun i σ H' => ∃ (v3 : Option V) (kvs : List (Key × V)) (ks : List Str), σ = [some (.ref a), some (.ref r), some (.ref D), v3] ∧ H' D = some (.dK kvs) ∧ kvs.map (·.1) = ks.map Sum.inr ∧ ks.Nodup ∧ (∀ z ∈ ks, z ∈ zs.take i) ∧ ks.length ≤ i ∧ (∀ p ∈ kvs, ∃ n : Int, p.2 = .int n) ∧ Kp a H H' ∧ Src H' a (n + 3 * (zs.length - i)))
      ⟨none, [], [], rfl, upd_same, rfl, List.nodup_nil, (by simp), Nat.zero_le _, (fun _ h => nomatch h), kD, (S.new nD).mono (by omega)⟩ (fun i σ H' _ q => by
        obtain ⟨_, _, _, _, _, _, _, _, _, _, k1, _⟩ := q
        exact .of (k1 _ _ ra hz)) ?_ ?_
    · rintro i x σ _ H1 hi ⟨v3, kvs, ks, rfl, hD, ek, ndk, kin, lk, inN, k1, S1⟩ ⟨rfl, hx⟩
      rw [List.getElem?_map] at hx
      obtain ⟨z, hz', rfl⟩ := Option.map_eq_some_iff.mp hx
      rw [List.length_map] at hi
      have tk : zs.take (i + 1) = zs.take i ++ [z] := by rw [List.take_add_one, hz']; rfl
      refine ⟨_, rfl, a, 3, n + 3 * (zs.length - (i + 1)) + 2, rfl, by decide, by decide, S1.mono (by omega), fun v H2 v0 v1 k2 S2 => ?_⟩
      refine ⟨_, _, rfl, rfl, _, rfl, ite2 (fun _ => ?_) fun _ => ?_⟩
      · refine ⟨_, rfl, a, n + 3 * (zs.length - (i + 1)), rfl, S2, fun u H3 _ k3 S3 => ?_⟩
        have k13 := (k1.trans k2).trans k3
        have hD3 := k3 _ _ Da (k2 _ _ Da hD)
        have nz : ¬ z ∈ ks := fun m => take_not nd hz' (kin z m)
        have ek' := putK_new (V.int u) (valV_keys ek nz)
        have lkv : kvs.length = ks.length := by have := congrArg List.length ek; simpa using this
        refine ⟨_, rfl, _, rfl, D, _, rfl, .inl ⟨kvs, Sum.inr z, hD3, rfl, by omega, rfl⟩, _, putK kvs (Sum.inr z) (.int u), ks ++ [z], rfl, upd_same, ?_, ?_, fun y hy => ?_, by rw [List.length_append, List.length_singleton]; omega, fun p hp => ?_, k13.mut nD, (S3.put Da).mono (by omega)⟩
        · rw [ek', List.map_append, List.map_append, ek]; rfl
        · rw [List.nodup_append]
          exact ⟨ndk, by simp, fun y hy b hb e => nz (by rw [← List.mem_singleton.mp hb, ← e]; exact hy)⟩
        · rw [tk]
          rcases List.mem_append.mp hy with q | q
          · exact List.mem_append_left _ (kin y q)
          · exact List.mem_append_right _ q
        · rw [ek'] at hp
          rcases List.mem_append.mp hp with q | q
          · exact inN p q
          · rw [List.mem_singleton.mp q]; exact ⟨u, rfl⟩
      · exact ⟨_, kvs, ks, rfl, k2 _ _ Da hD, ek, ndk, fun y hy => by rw [tk]; exact List.mem_append_left _ (kin y hy), by omega, inN, k1.trans k2, S2.mono (by omega)⟩
    · rintro σ H1 ⟨v3, kvs, ks, rfl, hD, ek, ndk, kin, lk, inN, k1, S1⟩
      rw [List.length_map, List.take_length] at kin
      rw [List.length_map] at lk
      exact ⟨_, rfl, k D kvs H1 nD hD ⟨ks, ek, ndk, kin, by omega, inN, valOf_is inN⟩ k1 (S1.mono (by omega))⟩
end
end Mf
namespace Mf
open PySem L2
/-! ### rows of one way that stand as the canonical ones do -/
/-- each row but the last leads to the next only, the last to anywhere; no two are alike: they are their own canonical rows -/
structure OneWay (R : Rws) : Prop where
  pos : 0 < R.length
  nd : NdOk R
  nx : ∀ k, k + 1 < R.length → nds (R.getD k []) = [k + 1]
  ne : ∀ i j, i < R.length → j < R.length → Bis R R i j → i = j
theorem OneWay.inj {R : Rws} (O : OneWay R) {i j : Nat} (hi : i < R.length) (hj : j < R.length) (e : cl (clsE R) i = cl (clsE R) j) : i = j := O.ne i j hi hj ((cls_iff O.nd hi hj).mp e)
theorem vis_all {c : List Nat} {fd : List Nat} : ∀ {is : List Nat}, (∀ i ∈ is, i ∈ fd) → visN c fd is = fd
  | [], _ => rfl
  | i :: is, h => by
    show visN c (if cl c i ∈ fd.map (cl c) then fd else fd ++ [i]) is = fd
    rw [if_pos (List.mem_map.mpr ⟨i, h i List.mem_cons_self, rfl⟩)]
    exact vis_all fun j hj => h j (List.mem_cons_of_mem _ hj)
theorem OneWay.grow {R : Rws} (O : OneWay R) : ∀ (m a : Nat), a < R.length → R.length ≤ a + m → growN R (clsE R) m a (List.range (a + 1)) = List.range R.length
  | 0, a, h, l => absurd h (by omega)
  | m + 1, a, h, l => by
    rw [growN_succ, show (List.range (a + 1))[a]? = some a by rw [List.getElem?_range (by omega)]]
    show growN R (clsE R) m (a + 1) (visN (clsE R) (List.range (a + 1)) (nds (R.getD a []))) = _
    by_cases c : a + 1 < R.length
    · rw [O.nx a c]
      show growN R (clsE R) m (a + 1) (if cl (clsE R) (a + 1) ∈ (List.range (a + 1)).map (cl (clsE R)) then List.range (a + 1) else List.range (a + 1) ++ [a + 1]) = _
      rw [if_neg (fun q => by
        obtain ⟨j, hj, e⟩ := List.mem_map.mp q
        have hj := List.mem_range.mp hj
        have := O.inj (by omega) c e
        omega), ← List.range_succ]
      exact O.grow m (a + 1) c (by omega)
    · have e : a + 1 = R.length := by omega
      rw [vis_all fun j hj => List.mem_range.mpr (by rw [e]; exact getD_nds O.nd hj), e]
      cases m with
      | zero => rfl
      | succ m =>
        rw [growN_succ, show (List.range R.length)[R.length]? = none by rw [List.getElem?_eq_none_iff, List.length_range]; exact Nat.le_refl _]
theorem OneWay.found {R : Rws} (O : OneWay R) : foundN R (clsE R) 0 = List.range R.length := O.grow (R.length + 1) 0 O.pos (by omega)
theorem OneWay.ix {R : Rws} (O : OneWay R) {j : Nat} (h : j < R.length) : ixG (cl (clsE R) j) ((List.range R.length).map (cl (clsE R))) = j := by
  have m : cl (clsE R) j ∈ (List.range R.length).map (cl (clsE R)) := List.mem_map.mpr ⟨j, List.mem_range.mpr h, rfl⟩
  have l := ixG_lt m
  have g := ixG_at m
  rw [List.length_map, List.length_range] at l
  rw [List.getElem?_map, List.getElem?_range l] at g
  exact O.inj l h (Option.some.inj g)
theorem OneWay.canon {R : Rws} (O : OneWay R) : canonN R 0 = R := by
  unfold canonN
  rw [O.found]
  refine List.ext_getElem? fun i => ?_
  rw [List.getElem?_map]
  by_cases h : i < R.length
  · rw [List.getElem?_range h, List.getElem?_eq_getElem h]
    show some (numRow _ _ (R.getD i [])) = some R[i]
    have e : R.getD i [] = R[i] := by rw [List.getD_eq_getElem?_getD, List.getElem?_eq_getElem h]; rfl
    rw [e]
    congr 1
    unfold numRow
    refine (List.map_congr_left fun it hi => ?_).trans (List.map_id _)
    cases it with
    | nd j => exact congrArg Itm.nd (O.ix (O.nd _ (List.getElem_mem h) j hi))
    | num n => rfl
    | wd z => rfl
    | gap => rfl
  · rw [List.getElem?_eq_none (by rw [List.length_range]; omega), List.getElem?_eq_none (by omega)]; rfl
/-- a row that differs from another at an item that is no node -/
theorem bis_item {R1 R2 : Rws} {i j x : Nat} {a : Itm} (b : Bis R1 R2 i j) (h : (R1.getD i [])[x]? = some a) (n : ∀ k, a ≠ .nd k) : (R2.getD j [])[x]? = some a := by
  rcases b.row x with ⟨p, q, e1, e2, _⟩ | ⟨_, e⟩
  · rw [h] at e1; exact absurd (Option.some.inj e1) (n p)
  · rw [← e]; exact h
theorem bis_next {R1 R2 : Rws} {i j x p q : Nat} (b : Bis R1 R2 i j) (h1 : (R1.getD i [])[x]? = some (.nd p)) (h2 : (R2.getD j [])[x]? = some (.nd q)) : Bis R1 R2 p q := by
  rcases b.row x with ⟨p', q', e1, e2, c⟩ | ⟨n, _⟩
  · rw [h1] at e1; rw [h2] at e2
    cases e1; cases e2
    exact c
  · exact absurd ⟨p, q, h1, h2⟩ n
/-- one row without nodes -/
theorem oneRow {r : List Itm} (h : ∀ it ∈ r, ∀ i, it ≠ .nd i) : OneWay [r] := by
  refine ⟨by simp, fun r' hr i hi => ?_, fun k hk => absurd hk (by simp), fun i j hi hj _ => ?_⟩
  · rw [List.mem_singleton.mp hr] at hi
    exact absurd rfl (h _ hi i)
  · simp at hi hj; omega
end Mf
namespace Mf
open PySem L2
section
variable {P : Program} {w : World} {K : PySem.W.Frag} {mg : Str → Option Value} {base : Heap} {Cp C : Addr}
/-! ### _law_body_drawn -/
def FlatS (zs : List Str) (s : Step) : Prop := (s.1 = ("read" : Str) ∧ s.2 ∈ zs) ∨ (s.1 = ("say" : Str) ∧ IsName s.2)
def spBodyD : Sp := fun vs H Q _ => ∃ (a pl : Addr) (zs : List Str) (n : Nat), vs = [.ref a, .ref pl] ∧ Src H a (n + 200) ∧ H pl = some (.lst (zs.map V.str)) ∧ zs ≠ [] ∧ zs.length ≤ 16 ∧
  ∀ b ts ss H', H b = none → H' b = some (.lst (ts.map V.ref)) → StA H' ts ss → ss.length ≤ 12 → (∀ s ∈ ss, FlatS zs s) → Kp a H H' → Src H' a n → Q (.ref b) H'
abbrev sBody_drawn : Stmt := top 70
theorem scBody_drawn : FnScope ["_law_source_here", "_law_places", "_law_body", "_law_turn"] ["_law_source_here", "_law_places"] (defScope sBody_drawn) := ⟨rfl, rfl, rfl, by decide +kernel, rfl, by decide +kernel, by decide +kernel⟩
set_option maxHeartbeats 1000000 in
theorem ok_bodyD {f : Addr} {fd : FuncData} (F : Fun K "_law_body_drawn" "_law_body_drawn" sBody_drawn f fd) (c_draw : Cal P w K mg base CX0 1 "_law_draw" psD spDraw) (c_name : Cal P w K mg base CX0 2 "_law_name" ["_law_source_here", "_law_taken"] (spName K)) (mRange : mg "range" = none) (mLen : mg "len" = none) :
    FnOk P w K mg base CX0 3 f fd ["_law_source_here", "_law_places"] spBodyD := by
  refine F.ok scBody_drawn (fun vs H Q E h => ?_) (fun cdv A outer s H vs Q E hr h => ?_)
  · obtain ⟨a, pl, zs, n, rfl, _⟩ := h
    rfl
  · obtain ⟨a, pl, zs, n, rfl, S, hp, ne, l16, k⟩ := h
    have hr_draw : Room 1 _ := hr.mono (by decide : 1 ≤ 2); have hr_name := hr
    refine ⟨_, (pss_cons (ps_set (i := 2) scBody_drawn.nd rfl (by first | exact Or.inl rfl | exact Or.inr rfl) (pe_lst pa_nil))
      (pss_cons (ps_for PassesOwn.never rfl (pi_range1 (by rfl) mRange (pa_cons (pe_cal c_draw hr_draw pass0 (pa_cons (pv 0) (pa_cons pe_int pa_nil))) pa_nil)) (pg_name (i := 3) scBody_drawn.nd rfl (by first | exact Or.inl rfl | exact Or.inr rfl))
        (pss_one (ps_if (pt_cmpR op_gt (pe_cal c_draw hr_draw pass0 (pa_cons (pv 0) (pa_cons pe_int pa_nil))) pe_int (nomark _))
          (pss_one (ps_expr (pe_bm PySem.F.plainAttrs_list PySem.F.slot_list_append PySem.F.type_list_append mt_append (pv 2) (pa_cons (pe_tup (pa_cons pe_str (pa_cons (pe_ix (ixl K) (pv 1) (pe_cal c_draw hr_draw pass0 (pa_cons (pv 0) (pa_cons (pe_callB (k_len K) (by rfl) mLen (by decide +kernel) (pa_cons (pv 1) pa_nil)) pa_nil))) (fun _ _ => rfl)) pa_nil))) pa_nil)))) (pss_one (ps_expr (pe_bm PySem.F.plainAttrs_list PySem.F.slot_list_append PySem.F.type_list_append mt_append (pv 2) (pa_cons (pe_tup (pa_cons pe_str (pa_cons (pe_cal c_name hr_name pass0 (pa_cons (pv 0) (pa_cons (pe_lst pa_nil) pa_nil))) pa_nil))) pa_nil)))))))
      (pss_one (ps_ret (pv 2))))), ?_⟩
    have big : (5000 : Nat) < sizeLine := by decide
    refine ⟨(by show 0 ≤ sizeLine; decide), fun b nb => ?_⟩
    have ba : b ≠ a := S.ne nb
    have pb : pl ≠ b := Ne.symm (ne_none nb hp)
    have hp1 := (Same.new (o := .lst []) nb) _ _ hp
    have S1 := S.new (o := .lst []) nb
    refine ⟨_, rfl, a, 13, n + 190, rfl, by decide, by decide, S1.mono (by omega), fun v H1 v0 v1 k1 S2 => ⟨v, rfl, by omega, by omega, ?_⟩⟩
    have k01 : Kp a H H1 := (Kp.new nb).trans k1
    refine for_range (lo := 0) (n := v.toNat) (fun i σ H' => ∃ (ts : List Addr) (ss : List Step) (v3 : Option V), σ = [some (.ref a), some (.ref pl), some (.ref b), v3] ∧ H' b = some (.lst (ts.map V.ref)) ∧ StA H' ts ss ∧ ss.length = i ∧ (∀ s ∈ ss, FlatS zs s) ∧ Kp a H H' ∧ Src H' a (n + 12 * (v.toNat - i)) ∧ H' pl = some (.lst (zs.map V.str)))
      ⟨[], [], none, rfl, k1 _ _ ba upd_same, .nil, rfl, (by simp), k01, S2.mono (by omega), k1 _ _ (strs_ne S1 hp1) hp1⟩ ?_ ?_
    · rintro i σ H2 hi ⟨ts, ss, v3, rfl, h2, st, ls, fl, k2, S3, hp2⟩
      have lt := Paired.length st
      refine ⟨_, rfl, a, 3, n + 12 * (v.toNat - (i + 1)) + 11, rfl, by decide, by decide, S3.mono (by omega), fun u H3 u0 u1 k3 S4 => ⟨_, _, rfl, rfl, _, rfl, ?_⟩⟩
      have h3 := k3 _ _ ba h2
      have hp3 := k3 _ _ (strs_ne S3 hp2) hp2
      have st3 : StA H3 ts ss := st.sameN (k3.noL S3)
      -- one more step
      have fin : ∀ {H' H4 : Hp} {t : Addr} {s : Step}, Kp a H3 H4 → FlatS zs s → H4 b = some (.lst (ts.map V.ref)) → StA H4 ts ss → Src H4 a (n + 12 * (v.toNat - (i + 1))) → H4 pl = some (.lst (zs.map V.str)) → H4 t = none → H' = upd (upd H4 t (.tup [.str s.1, .str s.2])) b (.lst (ts.map V.ref ++ [.ref t])) →
          ∃ (ts' : List Addr) (ss' : List Step) (v3' : Option V), [some (V.ref a), some (V.ref pl), some (V.ref b), some (V.int (0 + (i : Nat)))] = [some (V.ref a), some (V.ref pl), some (V.ref b), v3'] ∧ H' b = some (.lst (ts'.map V.ref)) ∧ StA H' ts' ss' ∧ ss'.length = i + 1 ∧ (∀ s ∈ ss', FlatS zs s) ∧ Kp a H H' ∧ Src H' a (n + 12 * (v.toNat - (i + 1))) ∧ H' pl = some (.lst (zs.map V.str)) := by
        rintro H' H4 t s k4 fs h4 st4 S5 hp4 nt rfl
        have s5 := Same.new (o := .tup [.str s.1, .str s.2]) nt
        refine ⟨ts ++ [t], ss ++ [s], _, rfl, by rw [upd_same, List.map_append]; rfl, paired_snoc ((st4.same s5).sameN (SameN.refl.put (s5 _ _ h4))) ?_, by rw [List.length_append, ls]; rfl, fun z hz => ?_, (((k2.trans k3).trans k4).trans (Kp.new nt)).mut nb, (S5.new nt).put ba, by rw [upd_ne pb]; exact s5 _ _ hp4⟩
        · rw [upd_ne (ne_none nt h4)]; exact upd_same
        · rcases List.mem_append.mp hz with hz | hz
          · exact fl z hz
          · rw [List.mem_singleton.mp hz]; exact fs
      have few : (ts.map V.ref).length < sizeLine := by rw [List.length_map]; omega
      refine ite2 (fun _ => ?_) fun _ => ?_
      · refine ⟨_, rfl, .inl ⟨rfl, _, .of h3⟩, _, rfl, _, rfl, _, rfl, pl, _, rfl, .inl (.of hp3), a, _, n + 12 * (v.toNat - (i + 1)), rfl, ?_, ?_, S4.mono (by omega), fun x H4 x0 x1 k4 S5 => ?_⟩
        · rw [List.length_map]; have := List.length_pos_iff.mpr ne; omega
        · rw [List.length_map]
          exact Nat.lt_trans (by omega : _ < 17) (by decide)
        · rw [List.length_map] at x1
          obtain ⟨z, hz, e⟩ := atI_str x0 x1
          have h4 := k4 _ _ ba h3
          have hp4 := k4 _ _ (strs_ne S4 hp3) hp3
          refine ⟨pl, _, x, _, rfl, rfl, .of hp4, e, (by show 2 ≤ sizeLine; decide), fun t nt => ⟨b, _, _, rfl, rfl, (Same.new nt) _ _ h4, few, ?_⟩⟩
          exact fin (s := (("read" : Str), z)) k4 (.inl ⟨rfl, hz⟩) h4 (st3.sameN (k4.noL S4)) S5 hp4 nt rfl
      · refine ⟨_, rfl, .inl ⟨rfl, _, .of h3⟩, _, rfl, (by show 0 ≤ sizeLine; decide), fun l nl => ?_⟩
        have sl := Same.new (o := .lst []) nl
        refine ⟨a, l, [], n + 12 * (v.toNat - (i + 1)), rfl, (S4.new nl).mono (by omega), S4.ne nl, .of upd_same, by decide, fun z H4 nz _ k4 S5 => ?_⟩
        have kl : Kp a H3 H4 := (Kp.new nl).trans k4
        have h4 := kl _ _ ba h3
        have hp4 := kl _ _ (strs_ne S4 hp3) hp3
        refine ⟨(by show 2 ≤ sizeLine; decide), fun t nt => ⟨b, _, _, rfl, rfl, (Same.new nt) _ _ h4, few, ?_⟩⟩
        exact fin (s := (("say" : Str), z)) kl (.inr ⟨rfl, nz.1⟩) h4 (st3.sameN (kl.noL S4)) S5 hp4 nt rfl
    · rintro σ H2 ⟨ts, ss, v3, rfl, h2, st, ls, fl, k2, S3, hp2⟩
      exact ⟨_, rfl, k b ts ss H2 nb h2 st (by omega) fl k2 (S3.mono (by omega))⟩
end
end Mf
namespace Mf
open PySem PySem.Spec PyProof.Rows L2
/-! ### rows as data -/
def rwD (r : List Itm) : PyData := .list (r.map itD)
def rsD (R : List (List Itm)) : PyData := .list (R.map rwD)
theorem eqv_rw (a b : List Itm) : PyData.eqv (rwD a) (rwD b) = decide (a = b) := eqvMap eqv_it a b
theorem eqv_rs (a b : List (List Itm)) : PyData.eqv (rsD a) (rsD b) = decide (a = b) := eqvMap eqv_rw a b
def WdI (it : Itm) : Prop := ∀ z, it = .wd z → PyData.strOk z = true
def WdR (R : List (List Itm)) : Prop := ∀ r ∈ R, ∀ it ∈ r, WdI it
theorem sh_rw {r : List Itm} (h : ∀ it ∈ r, WdI it) : Sh 2 (rwD r) := .listM fun it hi => sh_it (h it hi)
theorem sh_rs {R : List (List Itm)} (h : WdR R) : Sh 3 (rsD R) := .listM fun r hr => sh_rw (h r hr)
theorem dp_rw {K : PySem.W.Frag} {H : Hp} {u : Addr} {row : List Itm} (h : RowL K H u row) : Dp K H (.ref u) (rwD row) := let ⟨_, a, b⟩ := h; .lst (.of a) (dpPair b fun _ _ q => dp_it q)
theorem dp_rs {K : PySem.W.Frag} {H : Hp} {a : Addr} {us : List Addr} {R : List (List Itm)} (h : LisR K H a us R) : Dp K H (.ref a) (rsD R) := .lst (.of h.1) (dpPair h.2 fun _ _ q => dp_rw q)
theorem ixG_first {α : Type} [DecidableEq α] {k : α} : ∀ {ds : List α} {m : Nat} {z : α}, m < ixG k ds → ds[m]? = some z → z ≠ k
  | [], _, _, h, _ => absurd h (Nat.not_lt_zero _)
  | d :: ds, m, z, h, e => by
    unfold ixG at h
    by_cases c : d = k
    · rw [if_pos c] at h; exact absurd h (Nat.not_lt_zero _)
    · rw [if_neg c] at h
      cases m with
      | zero => cases e; exact c
      | succ m => exact ixG_first (ds := ds) (m := m) (by omega) (by simpa using e)
theorem any_rw {D : List (List Itm)} {r : List Itm} : ((D.map rwD).any fun z => PyData.eqv z (rwD r)) = decide (r ∈ D) := by
  induction D with
  | nil => simp
  | cons d D ih =>
    rw [List.map_cons, List.any_cons, ih, eqv_rw]
    by_cases e : d = r
    · subst e; simp
    · have : ¬ r = d := fun q => e q.symm
      simp [e, this]
theorem ptI_wd {f : Nat → Nat} {it : Itm} (h : WdI it) : WdI (ptI f it) := fun z e => by
  cases it with
  | nd j => cases e
  | num n => cases e
  | gap => cases e
  | wd y => exact h z e
theorem pt_wd {R : List (List Itm)} (h : WdR R) (c : List Nat) : WdR (R.map (ptRow c)) := fun r hr it hi => by
  obtain ⟨r0, h0, rfl⟩ := List.mem_map.mp hr
  obtain ⟨i0, h1, rfl⟩ := List.mem_map.mp hi
  exact ptI_wd (h r0 h0 i0 h1)
theorem dd_wd {R : List (List Itm)} (h : WdR R) : WdR (dd [] R) := fun r hr => h r ((dd_sub hr).elim (fun z => nomatch z) id)
theorem take_wd {R : List (List Itm)} (h : WdR R) (n : Nat) : WdR (R.take n) := fun r hr => h r (List.mem_of_mem_take hr)
section
variable {P : Program} {w : World} {K : PySem.W.Frag} {mg : Str → Option Value} {base : Heap}
theorem ninD {X : Cx} (K : PySem.W.Frag) {k : Nat} (hr : Room (k + 1) X.A) (h : X.K = K := by rfl) : OpR X (compareOp .NotIn) (rNotInD K) := h ▸ op_notInD (Room.in1 hr).units
theorem ixD {X : Cx} (K : PySem.W.Frag) {k : Nat} (hr : Room (k + 1) X.A) (h : X.K = K := by rfl) : MtR X "list.index" (rIndexD K) := h ▸ mt_indexD (Room.in1 hr).units
/-- pe_bm for a comprehension's block -/
theorem bmK (K : PySem.W.Frag) {X : Cx} {T : String} {o e : Expr} {es : List Expr} {to : TE} {t : TA} {name : Str} {apos cpos : Pos} {id : String} {r : V → List V → Hp → VK → Prop}
    (pa : PlainAttrs T) (slot : Slot T name id) (hty : typeOf (.builtin id) = pure (.type "method_descriptor")) (hm : MtR X id r) (ho : PE X o to) (ha : PA X (e :: es) t)
    (hbase : attributeBase o name X.env (eval o X.env) = eval o X.env := by rfl)
    (hfew : ((backTo cpos (starEach (e :: es) X.env)).all (fun x => !x.1) && (backToKw cpos (keywordEach [] X.env)).all (fun x => x.1.isSome)
      && decide ((e :: es).length + ([] : List Keyword).length + (if ([] : List Keyword).isEmpty then 0 else 1) < 30)) = true := by rfl)
    (hline : (apos.endLine == cpos.line) = true := by rfl) (hs : starEach (e :: es) X.env = (false, eval e X.env) :: starEach es X.env := by rfl) (hplain : (backTo cpos (starEach es X.env)).any (·.1) = false := by rfl) (h : X.K = K := by rfl) :
    PE X (.Call (.Attribute o name apos) (e :: es) [] cpos) (tBM K T r to t) := h ▸ pe_bm pa slot hty hm ho ha hbase hfew hline hs hplain
end
end Mf
namespace Mf
open PySem L2
/-- no step names a procedure -/
def FlatB (ss : List Step) : Prop := ∀ s ∈ ss, s.1 = ("read" : Str) ∨ s.1 = ("say" : Str)
theorem FlatS.b {zs : List Str} {ss : List Step} (h : ∀ s ∈ ss, FlatS zs s) : FlatB ss := fun s hs => (h s hs).elim (fun q => .inl q.1) fun q => .inr q.1
def itF (val : Str → Int) (s : Step) : Itm := if s.1 = ("read" : Str) then .num (val s.2) else .wd s.2
theorem rch_st {S : Str → Str → Prop} {y : Str} : Rch S (· ∈ ([] : List Str)) (· ∈ [y]) y := .base (List.mem_singleton.mpr rfl) (by simp)
theorem flat_paths {rs : List Pr} (R : RightP rs) {r : Pr} (hr : r ∈ rs) (fl : FlatB r.ss) : (∀ e ∈ pathsN (pls rs) requiring [] [r.name], e = (r.name, [r.name])) ∧ pathsN (pls rs) requiring [] [r.name] ≠ [] := by
  have ok := R.pc req_calling
  have bo : bodyOf (pls rs) r.name = r.ss := bodyOf_mem (by rw [pls_names]; exact R.nd) (List.mem_map.mpr ⟨r, hr, rfl⟩)
  constructor
  · refine growP_all (p := fun e => e = (r.name, [r.name])) (fun e h s hs k _ => ?_) fun e he => ?_
    · subst h
      have hs : s ∈ bodyOf (pls rs) r.name := hs
      rw [bo] at hs
      have k : s.1 = ("call" : Str) := List.mem_singleton.mp k
      rcases fl s hs with q | q <;> (rw [q] at k; exact absurd k (by decide +kernel))
    · obtain ⟨z, hz, rfl⟩ := List.mem_map.mp he
      have h1 := List.mem_singleton.mp (List.mem_filter.mp hz).1
      rw [h1]
  · intro e
    have m := (paths_mem ok (out := []) (sts := [r.name]) (by simp) (fun z hz => by rw [List.mem_singleton.mp hz, pls_names]; exact List.mem_map.mpr ⟨r, hr, rfl⟩) r.name).mpr rch_st
    rw [e] at m; cases m
theorem failIn_same {x : List Pc} {br : List Str} {e0 : Pa} : ∀ {ac : List Pa}, (∀ e ∈ ac, e = e0) → ac ≠ [] → failIn x br ac = (firstRead br (bodyOf x e0.1)).map fun d => (e0.2, d)
  | [], _, n => absurd rfl n
  | e :: es, h, _ => by
    have e1 := h e List.mem_cons_self
    subst e1
    unfold failIn
    cases q : firstRead br (bodyOf x e.1) with
    | some d => rfl
    | none =>
      show failIn x br es = none
      cases es with
      | nil => rfl
      | cons e' es => rw [failIn_same (fun z hz => h z (List.mem_cons_of_mem _ hz)) (by simp), q]; rfl
theorem fail_flat {rs : List Pr} (R : RightP rs) {r : Pr} (hr : r ∈ rs) (fl : FlatB r.ss) (br : List Str) : failN (pls rs) r.name br [] = (firstRead br r.ss).map fun d => ([r.name], d) := by
  have bo : bodyOf (pls rs) r.name = r.ss := bodyOf_mem (by rw [pls_names]; exact R.nd) (List.mem_map.mpr ⟨r, hr, rfl⟩)
  obtain ⟨h1, h2⟩ := flat_paths R hr fl
  unfold failN
  rw [failIn_same h1 h2]
  show (firstRead br (bodyOf (pls rs) r.name)).map _ = _
  rw [bo]
theorem plain_now {rs : List Pr} (R : RightP rs) {val : Str → Int} {br : List Str} {r : Pr} (hr : r ∈ rs) : (plainR rs val br []).getD (stP rs [] r.name) [] = r.ss.map (itemOf val (nodP rs br [])) := by
  obtain ⟨i, hi⟩ := List.mem_iff_getElem?.mp hr
  have fx : fstIx r.name (rs.map Pr.name) = i := fstIx_nd R.nd (by rw [List.getElem?_map, hi]; rfl)
  unfold stP plainR
  rw [if_neg (by simp), fx, List.getD_eq_getElem?_getD, List.getElem?_append_right (by rw [List.length_map]; omega), List.length_map, Nat.add_sub_cancel_left, List.getElem?_map, hi]; rfl
theorem item_flat {val : Str → Int} {nod : Str → Itm} {ss : List Step} (fl : FlatB ss) : ss.map (itemOf val nod) = ss.map (itF val) := by
  refine List.map_congr_left fun s hs => ?_
  unfold itemOf itF
  by_cases c : s.1 = ("read" : Str)
  · rw [if_pos c, if_pos c]
  · rw [if_neg c, if_neg c]
    rcases fl s hs with q | q
    · exact absurd q c
    · rw [if_pos q]
theorem itF_nd {val : Str → Int} {s : Step} {i : Nat} : itF val s ≠ .nd i := by
  unfold itF
  split <;> exact fun h => by cases h
theorem canon_flat {R : Rws} {i : Nat} (h : ∀ it ∈ R.getD i [], ∀ j, it ≠ .nd j) : canonN R i = [R.getD i []] := by
  have n0 : nds (R.getD i []) = [] := by
    unfold nds
    rw [List.filterMap_eq_nil_iff]
    intro it hi
    cases it with
    | nd j => exact absurd rfl (h _ hi j)
    | num n => rfl
    | wd z => rfl
    | gap => rfl
  have f : foundN R (clsE R) i = [i] := by
    unfold foundN
    rw [growN_succ]
    show growN R (clsE R) R.length 1 (visN (clsE R) [i] (nds (R.getD i []))) = [i]
    rw [n0]
    show growN R (clsE R) R.length 1 [i] = [i]
    cases R.length with
    | zero => rfl
    | succ m => rw [growN_succ]; rfl
  unfold canonN
  rw [f]
  show [numRow (clsE R) [i] (R.getD i [])] = _
  congr 1
  unfold numRow
  refine (List.map_congr_left fun it hi => ?_).trans (List.map_id _)
  cases it with
  | nd j => exact absurd rfl (h _ hi j)
  | num n => rfl
  | wd z => rfl
  | gap => rfl
theorem canon_now {rs : List Pr} (R : RightP rs) {val : Str → Int} {br : List Str} {r : Pr} (hr : r ∈ rs) (fl : FlatB r.ss) : canonN (plainR rs val br []) (stP rs [] r.name) = [r.ss.map (itF val)] := by
  have e := plain_now R (val := val) (br := br) hr
  rw [item_flat fl] at e
  rw [canon_flat (fun it hi j => ?_), e]
  rw [e] at hi
  obtain ⟨s, _, rfl⟩ := List.mem_map.mp hi
  exact itF_nd
mutual
theorem dp_same {K : PySem.W.Frag} {H H' : Hp} (s : Same H H') : ∀ {v : V} {d : PyData}, Dp K H v d → Dp K H' v d
  | _, _, .non => .non
  | _, _, .bl b => .bl b
  | _, _, .int i => .int i
  | _, _, .str x => .str x
  | _, _, .lst h a => .lst (SameL s h) (dpAll_same s a)
  | _, _, .tup h a => .tup (s.tup h) (dpAll_same s a)
theorem dpAll_same {K : PySem.W.Frag} {H H' : Hp} (s : Same H H') : ∀ {xs : List V} {ds : List PyData}, DpAll K H xs ds → DpAll K H' xs ds
  | _, _, .nil => .nil
  | _, _, .cons a b => .cons (dp_same s a) (dpAll_same s b)
end
/-- what a plain run does, as data -/
def outN (rs : List Pr) (val : Str → Int) (br out : List Str) (y : Str) : PyData := match failN (pls rs) y br out with
  | some (pa, d) => .tuple [.str "failed", .str y, .tuple (pa.map PyData.str), .str d]
  | none => .tuple [.str "rows", rsD (canonN (plainR rs val br out) (stP rs out y))]
/-- what is due, as data -/
def dueD (y : Str) (ss : List Step) (val : Str → Int) (br : List Str) : PyData := match firstRead br ss with
  | some d => .tuple [.str "failed", .str y, .tuple [.str y], .str d]
  | none => .tuple [.str "rows", rsD [ss.map (itF val)]]
theorem out_due {rs : List Pr} (R : RightP rs) {val : Str → Int} {br : List Str} {r : Pr} (hr : r ∈ rs) (fl : FlatB r.ss) : outN rs val br [] r.name = dueD r.name r.ss val br := by
  unfold outN dueD
  rw [fail_flat R hr fl, canon_now R hr fl]
  cases firstRead br r.ss <;> rfl
theorem wd_flat {ss : List Step} {val : Str → Int} (h : ∀ s ∈ ss, IsName s.2 ∨ s.1 = ("read" : Str)) : WdR [ss.map (itF val)] := fun row hrow it hi w e => by
  rw [List.mem_singleton.mp hrow] at hi
  obtain ⟨s, hs, rfl⟩ := List.mem_map.mp hi
  unfold itF at e
  split at e
  · cases e
  · rename_i c
    cases e
    exact (h s hs).elim (fun q => q.ok) fun q => absurd q c
theorem sh_due {y : Str} {ss : List Step} {val : Str → Int} {br : List Str} (hy : IsName y) (h : ∀ s ∈ ss, IsName s.2) : Sh 4 (dueD y ss val br) := by
  unfold dueD
  cases e : firstRead br ss with
  | some d =>
    have hd : IsName d := by
      unfold firstRead at e
      obtain ⟨s, hs, rfl⟩ := Option.map_eq_some_iff.mp e
      exact h s (List.mem_of_find?_eq_some hs)
    refine .tuple fun x hx => ?_
    simp only [List.mem_cons, List.not_mem_nil, or_false] at hx
    rcases hx with rfl | rfl | rfl | rfl
    · exact Sh.up (.str (by decide +kernel)) (by decide)
    · exact Sh.up (.str hy.ok) (by decide)
    · exact .tuple fun x hx => by
        rw [List.mem_singleton.mp hx]
        exact Sh.up (.str hy.ok) (by decide)
    · exact Sh.up (.str hd.ok) (by decide)
  | none =>
    refine .tuple fun d hd => ?_
    simp only [List.mem_cons, List.not_mem_nil, or_false] at hd
    rcases hd with rfl | rfl
    · exact Sh.up (.str (by decide +kernel)) (by decide)
    · exact sh_rs (wd_flat fun s hs => .inl (h s hs))
theorem eqv_due (y : Str) (ss : List Step) (val : Str → Int) (br : List Str) : PyData.eqv (dueD y ss val br) (dueD y ss val br) = true := by
  unfold dueD
  cases firstRead br ss with
  | some d =>
    show (PyData.eqv (.str "failed") (.str "failed") && (PyData.eqv (.str y) (.str y) && ((PyData.eqv (.str y) (.str y) && true) && (PyData.eqv (.str d) (.str d) && true)))) = true
    simp only [eqv_str, decide_true, Bool.and_true]
  | none =>
    show (PyData.eqv (.str "rows") (.str "rows") && (PyData.eqv (rsD _) (rsD _) && true)) = true
    rw [eqv_rs, decide_eq_true rfl, eqv_str, decide_eq_true rfl]; rfl
section
variable {P : Program} {w : World} {K : PySem.W.Frag} {mg : Str → Option Value} {base : Heap} {Cp C : Addr}
/-! ### _law_copy -/
def spCopy : Sp := fun vs H Q _ => ∃ (a : Addr) (ps : List Addr) (rs : List Pr), vs = [.ref a] ∧ LisP H a ps rs ∧ rs.length ≤ 16 ∧
  ∀ q qs es H', LisP H' q qs es → pls es = pls rs → H q = none → (∀ r ∈ es, H r.b = none ∧ r.b ≠ q) → (es.map Pr.b).Nodup → Same H H' → Q (.ref q) H'
abbrev sCopy : Stmt := top 66
theorem scCopy : FnScope ["_law_procedures", "_law_name_here", "_law_body"] ["_law_procedures"] (defScope sCopy) := ⟨rfl, rfl, rfl, by decide +kernel, rfl, by decide +kernel, by decide +kernel⟩
theorem ok_copy {f : Addr} {fd : FuncData} (F : Fun K "_law_copy" "_law_copy" sCopy f fd) (mList : mg "list" = none) : FnOk P w K mg base CX0 1 f fd ["_law_procedures"] spCopy := by
  refine F.ok scCopy (fun vs H Q E h => ?_) (fun cdv A outer s H vs Q E hr h => ?_)
  · obtain ⟨a, ps, rs, rfl, _⟩ := h
    rfl
  · obtain ⟨a, ps, rs, rfl, L, few, k⟩ := h
    have lpr : ps.length = rs.length := Paired.length L.2
    refine ⟨_, (pss_one (ps_ret (pe_lc (own := [("_law_name_here", 1), ("_law_body", 2)]) (g := (gTup K 2 (gCons (gName 1) (gCons (gName 2) gNil)))) (tt := tYes) rfl scCopy.nd (pi_list (pv 0)) (blkOk_by (own := [("_law_name_here", 1), ("_law_body", 2)]) (N := ["_law_procedures", "_law_name_here", "_law_body"]) (sc := defScope sCopy) (by decide +kernel)) (fun _ _ _ _ _ => (pg_tup rfl (pgs_cons (pg_name (i := 1) scCopy.nd rfl (by first | exact Or.inl rfl | exact Or.inr rfl)) (pgs_cons (pg_name (i := 2) scCopy.nd rfl (by first | exact Or.inl rfl | exact Or.inr rfl)) pgs_nil)))) (fun _ _ _ _ _ => pts_nil) (fun _ _ _ _ _ => (pe_tup (pa_cons (pv 1) (pa_cons (pe_callTy (k_list K) (by rfl) mList (by decide +kernel) (pa_cons (pv 2) pa_nil)) pa_nil))))))), ?_⟩
    refine ⟨_, rfl, a, rfl, ⟨_, .of L.1⟩, fun D hD => ?_⟩
    refine lc_it walk_list (fun i H' => ∃ (qs : List Addr) (es : List Pr), H' D = some (.lst (qs.map V.ref)) ∧ Paired (PrL H') qs es ∧ pls es = pls (rs.take i) ∧ Same H H' ∧ (∀ r ∈ es, H r.b = none ∧ r.b ≠ D) ∧ (es.map Pr.b).Nodup ∧ qs.length = i)
      ⟨[], [], upd_same, .nil, rfl, Same.new hD, (by simp), List.nodup_nil, rfl⟩ (fun i H' _ q => .of (q.choose_spec.choose_spec.2.2.2.1 _ _ L.1)) ?_ ?_
    · rintro i x _ H1 hi ⟨qs, es, h1, pr, ep, s1, fr, nd, lq⟩ ⟨rfl, hx⟩
      rw [List.getElem?_map] at hx
      obtain ⟨p, hp, rfl⟩ := Option.map_eq_some_iff.mp hx
      obtain ⟨r, hr2, pa⟩ := paired_get L.2 hp
      have p1 := pa.same s1
      rw [List.length_map, lpr] at hi
      refine ⟨p, _, rfl, .of p1.1, rfl, _, _, rfl, _, _, rfl, rfl, rfl, yes_then ?_⟩
      refine ⟨_, rfl, _, rfl, r.b, _, rfl, .inl (.of p1.2.1), fun l hl => ⟨(by show 2 ≤ sizeLine; decide), fun t ht => ?_⟩⟩
      have s2 : Same H1 (upd (upd H1 l (.lst (r.ts.map V.ref))) t (.tup [.str r.name, .ref l])) := (Same.new hl).trans (Same.new ht)
      have hl2 : (upd (upd H1 l (.lst (r.ts.map V.ref))) t (.tup [.str r.name, .ref l])) l = some (.lst (r.ts.map V.ref)) := (Same.new ht) _ _ upd_same
      have ht2 : (upd (upd H1 l (.lst (r.ts.map V.ref))) t (.tup [.str r.name, .ref l])) t = some (.tup [.str r.name, .ref l]) := upd_same
      generalize upd (upd H1 l (.lst (r.ts.map V.ref))) t (.tup [.str r.name, .ref l]) = H2 at s2 hl2 ht2
      have h2 := s2 _ _ h1
      have lD : l ≠ D := ne_none hl h1
      refine ⟨_, h2, ?_, qs ++ [t], es ++ [⟨r.name, l, r.ts, r.ss⟩], by rw [upd_same, List.map_append]; rfl, ?_, ?_, (s1.trans s2).mut hD, fun e he => ?_, ?_, by rw [List.length_append, lq]; rfl⟩
      · rw [List.length_map, lq]; exact Nat.lt_of_lt_of_le (by omega : i < 17) (by decide)
      · refine paired_snoc (paired_same (paired_mem pr) fun q e hqe => (hqe.1.same s2).put h2 (fr e hqe.2).2) ⟨?_, ?_, ?_⟩
        · rw [upd_ne (fun e => by rw [e, h2] at ht2; cases ht2)]; exact ht2
        · rw [upd_ne lD]; exact hl2
        · exact (p1.2.2.same s2).sameN (SameN.refl.put h2)
      · rw [pls_snoc, ep, List.take_add_one, hr2]
        show _ = pls (rs.take i ++ [r])
        rw [pls_snoc]
      · rcases List.mem_append.mp he with he | he
        · exact fr e he
        · rw [List.mem_singleton.mp he]
          exact ⟨by cases hH : H l with | none => rfl | some o => (rw [s1 _ _ hH] at hl; cases hl), lD⟩
      · rw [List.map_append]
        refine List.nodup_append.mpr ⟨nd, List.nodup_cons.mpr ⟨by simp, List.nodup_nil⟩, fun y hy u hu e => ?_⟩
        obtain ⟨e', he', rfl⟩ := List.mem_map.mp hy
        have q : u = l := List.mem_singleton.mp hu
        obtain ⟨p', hp'⟩ := paired_has pr he'
        have z := hp'.2.1
        rw [e, q, hl] at z
        cases z
    · rintro H1 ⟨qs, es, h1, pr, ep, s1, fr, nd, lq⟩
      rw [List.length_map, lpr, List.take_length] at ep
      exact k D qs es H1 ⟨h1, pr⟩ ep hD fr nd s1
end
end Mf
/-! Calls with keywords, or with defaults, of a def that may raise: within try, or at a frame that lets nothing out. -/
namespace Mf
open PySem PySem.Spec PyProof.Rows L2
/-- what a def may raise is nothing here -/
theorem passF {X : Cx} : Passes (L2.CX X.prog X.w) X (fun _ _ _ => False) := fun _ _ _ _ _ _ _ h => by
  obtain ⟨_, _, _, _, _, _, _, _, _, _, _, _, q⟩ := h
  exact q.elim
def tCallNS (n m : Nat) (sp : Sp) (gV : List V → List V → List V) (E : L2.St → XK) (t tk : TA) : TE := fun σ H Q => t σ H fun vs H1 => tk σ H1 fun zs H2 => vs.length = n ∧ zs.length = m ∧ sp (gV vs zs) H2 Q (E σ)
section
variable {X : Cx} {CX : CXT} {k n : Nat} {f : Addr} {fd : FuncData} {ps ks : List Str} {sp : Sp} {E : L2.St → XK} {x : Str} {p pos : Pos} {e : Expr} {es : List Expr} {kws : List Keyword} {t tk : TA} {g : List Value → List Value → List Value} {gV : List V → List V → List V}
theorem run_fnNS {pins : List (Addr × Obj)} {σ : L2.St} {H : Hp} {s : Shared} {Q : VK} {us ws : List Value} {vs zs : List V} (F : FnOk X.prog X.w X.K X.mg X.base CX k f fd ps sp) (hr : Room k X.A) (hb : KBn X.K fd ps n ks g gV) (hx : PassesAt CX X σ (E σ))
    (I : Inv X pins σ H s) (r : Vals vs us) (rz : Vals zs ws) (l1 : vs.length = n) (l2 : zs.length = ks.length) (h : sp (gV vs zs) H Q (E σ)) : wpAny (model X.prog X.w) X.A (call (.ref f) us (ks.zip ws)) (EP X pins σ Q) X.xe s := by
  have r2 := hb.rel r rz
  refine wpAny_call (codeAny_mono (F.run X.A X.stack s H ⟨us, ks.zip ws⟩ (g us ws) (gV vs zs) Q (E σ) hr I.env0 (hb.to s us ws I.kIn (r.length.symm.trans l1) (rz.length.symm.trans l2)) r2 h) fun r s' hq => ?_)
  cases r with
  | error e => exact hx pins H s e s' I hq
  | ok fl =>
    cases fl with
    | ret u => exact I.after hq
    | next => exact False.elim hq
    | brk => exact False.elim hq
    | cont => exact False.elim hq
theorem pe_callNS (F : FnOk X.prog X.w X.K X.mg X.base CX k f fd ps sp) (hr : Room k X.A) (hg : Gl X x) (hm : X.mg x = some (.ref f)) (hk : PySem.W.keepIn X.K (.ref f) = true) (hb : KBn X.K fd ps n ks g gV) (hx : ∀ σ, PassesAt CX X σ (E σ))
    (ha : PA X (e :: es) t) (hkw : PK X kws tk) (hall : (backToKw pos (keywordEach kws X.env)).all (·.1.isSome) = true := by rfl) (hks : (backToKw pos (keywordEach kws X.env)).filterMap (·.1) = ks := by rfl)
    (hdb : (x == ("__debug__" : Str)) = false := by decide) (he : starEach (e :: es) X.env = (false, eval e X.env) :: starEach es X.env := by rfl)
    (hpl : ((backTo pos (starEach (e :: es) X.env)).any (·.1) || (backToKw pos (keywordEach kws X.env)).any (·.1.isNone)) = false := by rfl) :
    PE X (.Call (.Name x p) (e :: es) kws pos) (tCallNS n ks.length sp gV E t tk) := by
  refine ⟨fun pins s σ H Q I h => ?_⟩
  refine wpAny_Call_Name_kw (ld_glob I hg hm ?_ hdb)
  refine PySem.W.callWith_KW (h₀ := X.base) I.ok.mod.kin hk hall (thn (ha.run pos pins s σ H _ I h) fun us s1 ⟨vs, H1, I1, r, q⟩ => ?_) hpl he
  refine thn (hkw.run pos pins s1 σ H1 _ I1 q) fun ws s2 ⟨zs, H2, I2, rz, l1, l2, q2⟩ => ⟨I2.kIn, ?_⟩
  rw [hks]
  exact run_fnNS F hr hb (hx σ) I2 r rz l1 l2 q2
/-- f(.., k = v) of a def with keyword-only parameters that may raise -/
theorem pe_calkS (c : CalK X.prog X.w X.K X.mg X.base CX k x ps sp n ks gV) (hr : Room k X.A) (hx : ∀ σ, PassesAt CX X σ (E σ)) (ha : PA X (e :: es) t) (hkw : PK X kws tk) (hg : Gl X x := by rfl)
    (hall : (backToKw pos (keywordEach kws X.env)).all (·.1.isSome) = true := by rfl) (hks : (backToKw pos (keywordEach kws X.env)).filterMap (·.1) = ks := by rfl)
    (hdb : (x == ("__debug__" : Str)) = false := by decide) (he : starEach (e :: es) X.env = (false, eval e X.env) :: starEach es X.env := by rfl)
    (hpl : ((backTo pos (starEach (e :: es) X.env)).any (·.1) || (backToKw pos (keywordEach kws X.env)).any (·.1.isNone)) = false := by rfl) :
    PE X (.Call (.Name x p) (e :: es) kws pos) (tCallNS n ks.length sp gV E t tk) := by
  obtain ⟨f, fd, g, F, m, kp, b⟩ := c.ex
  exact pe_callNS F hr hg m kp b hx ha hkw hall hks hdb he hpl
end
end Mf
namespace Mf
open PySem L2
theorem eF1 : (Str.ofString "name" == Str.ofString "place") = false := by decide +kernel
theorem eF2 : (Str.ofString "name" == Str.ofString "path") = false := by decide +kernel
theorem eF3 : (Str.ofString "path" == Str.ofString "place") = false := by decide +kernel
theorem flR_no {d : Addr} {m : Str} (h : m ≠ "_rows") : (flR d).lookup m = none := by
  unfold flR
  rw [lookup_putF, if_neg h]; rfl
theorem dpStrs {K : PySem.W.Frag} {H : Hp} : ∀ zs : List Str, DpAll K H (zs.map V.str) (zs.map PyData.str) := fun zs => dpS zs
section
variable {P : Program} {w : World} {K : PySem.W.Frag} {mg : Str → Option Value} {base : Heap} {Cp C CR CF : Addr}
/-! ### _law_plain_try -/
def spTry (K : PySem.W.Frag) (Cp C : Addr) : Sp := fun vs H Q _ => ∃ (p : Addr) (rs : List Pr) (nm : Str) (num brv : V) (val : Str → Int) (br : List Str), vs = [.ref p, .str nm, num, brv] ∧ Prg K Cp H p rs ∧ nm ∈ rs.map Pr.name ∧ NumA H num (readsOf rs) val ∧
  ArgS K C H brv br ∧ br.length < 4000 ∧ (∀ z ∈ br, z ∈ readsOf rs) ∧
  ∀ t H', Same H H' → Dp K H' (.ref t) (outN rs val br [] nm) → Q (.ref t) H'
abbrev sPlain_try : Stmt := top 71
theorem scPlain_try : FnScope ["_law_program", "_law_name_here", "_law_worths", "_law_hurt", "_law_found", "e"] ["_law_program", "_law_name_here", "_law_worths", "_law_hurt"] (defScope sPlain_try) := ⟨rfl, rfl, rfl, by decide +kernel, rfl, by decide +kernel, by decide +kernel⟩
set_option maxHeartbeats 2000000 in
theorem ok_try {f aE : Addr} {oE : Obj} {fd : FuncData} (F : Fun K "_law_plain_try" "_law_plain_try" sPlain_try f fd) (U : ErF P w K mg base CF) (n1 : PySem.W.findIn K (.ref CF) "name" = some none) (n2 : PySem.W.findIn K (.ref CF) "path" = some none) (n3 : PySem.W.findIn K (.ref CF) "place" = some none) (T : RsC K mg CR) (o_rows : CalM P w K mg base CX0 1 CR "rows" ["self"] (spRsRows K CR))
    (lE : K.lookup aE = some oE) (cE : oE.cls = .type "tuple") (qE : ∀ H, SqT K H aE [])
    (k_plain : CalK P w K mg base (L2.CX P w) 9 "plain_result" ["program", "name", "numbers", "broken", "spared"] (spPlain K Cp C CR CF) 2 ["numbers", "broken"] (fun vs zs => vs ++ zs ++ [.ref aE])) : FnOk P w K mg base CX0 10 f fd ["_law_program", "_law_name_here", "_law_worths", "_law_hurt"] (spTry K Cp C) := by
  refine F.ok scPlain_try (fun vs H Q E h => ?_) (fun cdv A outer s H vs Q E hr h => ?_)
  · obtain ⟨p, rs, nm, num, brv, val, br, rfl, _⟩ := h
    rfl
  · obtain ⟨p, rs, nm, num, brv, val, br, rfl, hP, hnm, nA, hbr, lbr, ibr, k⟩ := h
    have hr1 : Room 1 _ := hr.mono (by decide : 1 ≤ 9)
    refine ⟨_, (pss_cons (ps_set (i := 4) scPlain_try.nd rfl (by first | exact Or.inl rfl | exact Or.inr rfl) (pe_tup (pa_cons pe_str pa_nil)))
      (pss_cons (ps_try_as (i := 5) rfl rfl scPlain_try.nd rfl rfl ⟨rfl, by decide, .inl U.mgC⟩ takes0 (fun W pn xe tk _ => (pss_one (ps_set (i := 4) scPlain_try.nd rfl (by first | exact Or.inl rfl | exact Or.inr rfl) (pe_tup (pa_cons pe_str (pa_cons (om_meth0 (pe_calkS k_plain hr (fun σ => passAt tk σ) (pa_cons (pv 0) (pa_cons (pv 1) pa_nil)) (pk_cons (pv 2) (pk_cons (pv 3) pk_nil))) T.ins.cl o_rows hr1 pass0) pa_nil)))))) (fun a_ oe cls d_ pn hz hf => (pss_one (ps_set (i := 4) scPlain_try.nd rfl (by first | exact Or.inl rfl | exact Or.inr rfl) (pe_tup (pa_cons pe_str (pa_cons (pe_xf U.xf n1 hz hf (pv 5)) (pa_cons (pe_xf U.xf n2 hz hf (pv 5)) (pa_cons (pe_xf U.xf n3 hz hf (pv 5)) pa_nil)))))))))
      (pss_one (ps_ret (pv 4))))), ?_⟩
    have R := (show RightP rs from let ⟨_, _, _, _, _, _, _, R, _⟩ := hP; R)
    refine ⟨(by show 1 ≤ sizeLine; decide), fun t0 ht0 => ?_⟩
    have s0 := Same.new (o := .tup [.str "none"]) ht0
    generalize upd H t0 (.tup [.str "none"]) = H0 at s0 ⊢
    refine ⟨_, rfl, _, rfl, _, rfl, _, rfl, rfl, rfl, p, rs, nm, num, brv, .ref aE, val, br, [], rfl, hP.same s0, hnm, nA.same s0, hbr.same s0, lbr, ibr, .emp lE cE qE, (by decide), (by simp), fun pa dd e d u H1 nd s1 hd sq => ?_, fun e r dx d us H1 A1 nr nd nus s1 => ?_⟩
    · refine ⟨true, U.exm, fun _ e' he => ?_, fun q => nomatch q⟩
      refine ⟨_, rfl, rfl, rfl, d, _, .str nm, rfl, hd, (by simp [List.lookup, eF1, eF2, eF3]), _, rfl, rfl, rfl, d, _, .ref u, rfl, hd, (by simp [List.lookup, eF1, eF2, eF3]), _, rfl, rfl, rfl, d, _, .str dd, rfl, hd, (by simp [List.lookup, eF1, eF2, eF3]), (by show 4 ≤ sizeLine; decide), fun t5 nt5 => ⟨_, rfl, ?_⟩⟩
      have s5 := Same.new (o := .tup [.str "failed", .str nm, .ref u, .str dd]) nt5
      refine k t5 _ ((s0.trans s1).trans s5) ?_
      unfold outN
      rw [e]
      exact .tup (.of upd_same) (.cons (.str _) (.cons (.str _) (.cons (.tup (s5.tup sq) (dpStrs pa)) (.cons (.str _) .nil))))
    · have fw := (plainR_ok R (val := val) (br := br) (out := [])).few
      have cl := canon_le (plainR_ok R (val := val) (br := br) (out := [])).nd (show stP rs [] nm < (plainR rs val br []).length by rw [plainR_len]; exact stP_lt hnm)
      refine ⟨r, dx, _, rfl, A1.o, flR_no (by decide), r, dx, d, us, _, rfl, A1, by omega, fun D ws H2 nD LD fD s2 => ⟨(by show 2 ≤ sizeLine; decide), fun t5 nt5 => ⟨_, rfl, ?_⟩⟩⟩
      have s5 := Same.new (o := .tup [.str "rows", .ref D]) nt5
      refine k t5 _ (((s0.trans s1).trans s2).trans s5) ?_
      unfold outN
      rw [e]
      exact .tup (.of upd_same) (.cons (.str _) (.cons (dp_rs (LD.same s5)) .nil))
/-! ### _law_due -/
/-- what is due, as it lies -/
def DueA (K : PySem.W.Frag) (H : Hp) (t : Addr) (y : Str) (ss : List Step) (val : Str → Int) (br : List Str) : Prop := match firstRead br ss with
  | some d => ∃ u, H t = some (.tup [.str "failed", .str y, .ref u, .str d]) ∧ H u = some (.tup [.str y])
  | none => ∃ D us, H t = some (.tup [.str "rows", .ref D]) ∧ LisR K H D us [ss.map (itF val)]
theorem DueA.dp {H : Hp} {t : Addr} {y : Str} {ss : List Step} {val : Str → Int} {br : List Str} (h : DueA K H t y ss val br) : Dp K H (.ref t) (dueD y ss val br) := by
  unfold DueA at h
  unfold dueD
  cases e : firstRead br ss with
  | some d =>
    rw [e] at h
    obtain ⟨u, h1, h2⟩ := h
    exact .tup (.of h1) (.cons (.str _) (.cons (.str _) (.cons (.tup (.of h2) (.cons (.str _) .nil)) (.cons (.str _) .nil))))
  | none =>
    rw [e] at h
    obtain ⟨D, us, h1, h2⟩ := h
    exact .tup (.of h1) (.cons (.str _) (.cons (dp_rs h2) .nil))
def spDue (K : PySem.W.Frag) : Sp := fun vs H Q _ => ∃ (y : Str) (bl wd hv : Addr) (ts : List Addr) (ss : List Step) (kvs : List (Key × V)) (val : Str → Int) (br : List Str), vs = [.str y, .ref bl, .ref wd, .ref hv] ∧ H bl = some (.lst (ts.map V.ref)) ∧ StA H ts ss ∧ FlatB ss ∧ (∀ s ∈ ss, IsName s.2) ∧ ss.length ≤ 12 ∧ H wd = some (.dK kvs) ∧
  (∀ z, valV kvs (Sum.inr z) = some (.int (val z)) ∨ (valV kvs (Sum.inr z) = none ∧ val z = 0)) ∧ (SqL K H hv (br.map V.str) ∨ SqT K H hv (br.map V.str)) ∧
  ∀ t H', Same H H' → DueA K H' t y ss val br → Q (.ref t) H'
theorem first_head {br : List Str} (ss : List Step) : ((ss.filter fun s => decide (s.1 = ("read" : Str)) && decide (s.2 ∈ br)).map fun s => s.2).head? = firstRead br ss := by
  unfold firstRead
  rw [List.head?_map, List.head?_filter]
abbrev sDue : Stmt := top 72
theorem scDue : FnScope ["_law_name_here", "_law_body", "_law_worths", "_law_hurt", "_law_failing", "_law_row", "_law_kind", "_law_word"] ["_law_name_here", "_law_body", "_law_worths", "_law_hurt"] (defScope sDue) := ⟨rfl, rfl, rfl, by decide +kernel, rfl, by decide +kernel, by decide +kernel⟩
set_option maxHeartbeats 2000000 in
theorem ok_due {f : Addr} {fd : FuncData} (F : Fun K "_law_due" "_law_due" sDue f fd) : FnOk P w K mg base CX0 1 f fd ["_law_name_here", "_law_body", "_law_worths", "_law_hurt"] (spDue K) := by
  refine F.ok scDue (fun vs H Q E h => ?_) (fun cdv A outer s H vs Q E hr h => ?_)
  · obtain ⟨y, bl, wd, hv, ts, ss, kvs, val, br, rfl, _⟩ := h
    rfl
  · obtain ⟨y, bl, wd, hv, ts, ss, kvs, val, br, rfl, hb, st, fl, nmS, l12, hwd, vals, hq, k⟩ := h
    have hu : (A.deeper (PyProof.Rows.envOfC "_law_due" (defScope sDue) s.heap.objs.size f cdv)).units + 1 < cLine := by have := hr.units; omega
    have big : (5000 : Nat) < sizeLine := by decide
    have lt := Paired.length st
    refine ⟨_, (pss_cons (ps_setLc (i := 4) (own := [("_law_kind", 6), ("_law_word", 7)]) (g := (gTup K 2 (gCons (gName 6) (gCons (gName 7) gNil)))) rfl scDue.nd rfl rfl (sw_true rfl rfl rfl (by decide +kernel)) (pi_list (pv 1)) (blkOk_by (own := [("_law_kind", 6), ("_law_word", 7)]) (N := ["_law_name_here", "_law_body", "_law_worths", "_law_hurt", "_law_failing", "_law_row", "_law_kind", "_law_word"]) (sc := defScope sDue) (by decide +kernel)) (fun _ _ _ _ _ => (pg_tup rfl (pgs_cons (pg_name (i := 6) scDue.nd rfl (by first | exact Or.inl rfl | exact Or.inr rfl)) (pgs_cons (pg_name (i := 7) scDue.nd rfl (by first | exact Or.inl rfl | exact Or.inr rfl)) pgs_nil)))) (fun _ _ _ _ _ => pts_one (PW.pt (pw_and (pt_cmpR op_eq (pv 6) pe_str (nomark _)) (pw_and1 (pt_cmpR (oin K) (pv 7) (pv 3) (by rfl)))))) (fun _ _ _ _ _ => (pv 7)))
      (pss_cons (ps_if (pt_cmpR (neD K hr) (pv 4) (pe_lst pa_nil) (nomark _))
        (pss_one (ps_ret (pe_tup (pa_cons pe_str (pa_cons (pv 0) (pa_cons (pe_tup (pa_cons (pv 0) pa_nil)) (pa_cons (pe_ix (ixl K) (pv 4) pe_int (fun _ _ => rfl)) pa_nil))))))) pss_nil)
      (C8.pss_cut (ps_setLc (i := 5) (own := [("_law_kind", 6), ("_law_word", 7)]) (g := (gTup K 2 (gCons (gName 6) (gCons (gName 7) gNil)))) (tt := tYes) rfl scDue.nd rfl rfl (sw_true rfl rfl rfl (by decide +kernel)) (pi_list (pv 1)) (blkOk_by (own := [("_law_kind", 6), ("_law_word", 7)]) (N := ["_law_name_here", "_law_body", "_law_worths", "_law_hurt", "_law_failing", "_law_row", "_law_kind", "_law_word"]) (sc := defScope sDue) (by decide +kernel)) (fun _ _ _ _ _ => (pg_tup rfl (pgs_cons (pg_name (i := 6) scDue.nd rfl (by first | exact Or.inl rfl | exact Or.inr rfl)) (pgs_cons (pg_name (i := 7) scDue.nd rfl (by first | exact Or.inl rfl | exact Or.inr rfl)) pgs_nil)))) (fun _ _ _ _ _ => pts_nil) (fun _ _ _ _ _ => (pe_ifExp (pt_cmpR op_eq (pv 6) pe_str (nomark _)) (pe_tup (pa_cons pe_str (pa_cons (pe_dget2 hu (pv 2) (pv 7) pe_int ⟨rfl, rfl, rfl, rfl⟩) pa_nil))) (pe_tup (pa_cons pe_str (pa_cons (pv 7) pa_nil))))))
      (pss_one (ps_ret (pe_tup (pa_cons pe_str (pa_cons (pe_lst (pa_cons (pv 5) pa_nil)) pa_nil)))))))), ?_⟩
    refine ⟨_, rfl, bl, rfl, ⟨_, .of hb⟩, fun L nL => ?_⟩
    refine lc_it walk_list (fun i H' => Same H H' ∧ H' L = some (.lst ((((ss.take i).filter fun s => decide (s.1 = ("read" : Str)) && decide (s.2 ∈ br)).map fun s => s.2).map V.str))) ⟨Same.new nL, upd_same⟩ (fun i H' _ q => .of (q.1 _ _ hb)) ?_ ?_
    · rintro i x _ H1 hi ⟨s1, h1⟩ ⟨rfl, hx⟩
      rw [List.getElem?_map] at hx
      obtain ⟨t, ht, rfl⟩ := Option.map_eq_some_iff.mp hx
      obtain ⟨sp, hsp, hts⟩ := st.get ht
      have tk : ss.take (i + 1) = ss.take i ++ [sp] := by rw [List.take_add_one, hsp]; rfl
      have hq1 : SqL K H1 hv (br.map V.str) ∨ SqT K H1 hv (br.map V.str) := hq.elim (fun q => .inl (SameL s1 q)) fun q => .inr (s1.tup q)
      refine ⟨t, _, rfl, .of (s1 _ _ hts), rfl, _, _, rfl, _, _, rfl, rfl, rfl, ?_⟩
      have skip : (decide (sp.1 = ("read" : Str)) && decide (sp.2 ∈ br)) = false → Same H H1 ∧ H1 L = some (.lst ((((ss.take (i + 1)).filter fun s => decide (s.1 = ("read" : Str)) && decide (s.2 ∈ br)).map fun s => s.2).map V.str)) := fun e => by
        refine ⟨s1, ?_⟩
        rw [tk, List.filter_append, List.filter_cons_of_neg (by rw [e]; decide), List.filter_nil, List.append_nil]
        exact h1
      refine ⟨_, rfl, rfl, _, rfl, ite2 (fun q => ?_) fun q => ?_⟩
      · have q : sp.1 = ("read" : Str) := V.str.inj (of_decide_eq_true q)
        refine ⟨_, rfl, _, rfl, hv, _, rfl, hq1, rfl, flat_strs br, _, rfl, ?_⟩
        show if inV (.str sp.2) (br.map V.str) = true then _ else _
        rw [inV_str]
        by_cases c : sp.2 ∈ br
        · rw [decide_eq_true c]
          refine iteT ⟨_, rfl, _, h1, ?_, s1.mut nL, ?_⟩
          · rw [List.length_map, List.length_map]
            refine Nat.lt_of_le_of_lt (List.length_filter_le _ _) ?_
            rw [List.length_take]; omega
          · rw [upd_same, tk, List.filter_append, List.filter_cons_of_pos (by rw [decide_eq_true q, decide_eq_true c]; rfl), List.filter_nil, List.map_append, List.map_append]; rfl
        · rw [decide_eq_false c]
          exact iteF (skip (by rw [decide_eq_false c, Bool.and_false]))
      · have q : ¬ sp.1 = ("read" : Str) := fun e => q (decide_eq_true (by rw [e]))
        exact iteF (skip (by rw [decide_eq_false q, Bool.false_and]))
    rintro H1 ⟨s1, h1⟩
    rw [List.length_map, lt, List.take_length] at h1
    have hd0 := first_head (br := br) ss
    have lF : ((ss.filter fun s => decide (s.1 = ("read" : Str)) && decide (s.2 ∈ br)).map fun s => s.2).length ≤ 12 := by
      rw [List.length_map]
      exact Nat.le_trans (List.length_filter_le _ _) l12
    have okF : ∀ z ∈ (ss.filter fun s => decide (s.1 = ("read" : Str)) && decide (s.2 ∈ br)).map (fun s => s.2), IsName z := fun z hz => by
      obtain ⟨s, hs, rfl⟩ := List.mem_map.mp hz
      exact nmS s (List.mem_filter.mp hs).1
    generalize (ss.filter fun s => decide (s.1 = ("read" : Str)) && decide (s.2 ∈ br)).map (fun s => s.2) = Fs at h1 hd0 lF okF
    refine ⟨_, rfl, (by show 0 ≤ sizeLine; decide), fun e0 ne0 => ?_⟩
    have s2 := Same.new (o := .lst []) ne0
    have h2 := s2 _ _ h1
    have he0 : Dp K (upd H1 e0 (.lst [])) (.ref e0) (.list []) := .lst (.of upd_same) .nil
    generalize upd H1 e0 (.lst []) = H2 at s2 h2 he0 ⊢
    have s12 := s1.trans s2
    have shF : SeqAt.shaped (.list (Fs.map PyData.str)) = true := (Sh.listM (k := 0) (f := PyData.str) fun z hz => .str (okF z hz).ok).sh
    refine ⟨_, _, .lst (.of h2) (dpS Fs), he0, shF, rfl, _, rfl, ?_⟩
    cases Fs with
    | cons z Fs =>
      refine iteT ?_
      have e : firstRead br ss = some z := hd0.symm
      refine ⟨_, rfl, _, rfl, (by show 1 ≤ sizeLine; decide), fun u nu => ⟨_, rfl, L, _, _, _, rfl, rfl, .of ((Same.new nu) _ _ h2), (show atI ((z :: Fs).map V.str) ((0 : Nat) : Int) = some (.str z) from atI_nat rfl), (by show 4 ≤ sizeLine; decide), fun t nt => ?_⟩⟩
      have s3 := Same.new (o := .tup [.str y]) nu
      have s4 := Same.new (o := .tup [.str "failed", .str y, .ref u, .str z]) nt
      refine k t _ ((s12.trans s3).trans s4) ?_
      unfold DueA
      rw [e]
      exact ⟨u, upd_same, s4 _ _ upd_same⟩
    | nil =>
      refine iteF ?_
      have e : firstRead br ss = none := hd0.symm
      refine ⟨fun σ H' => ∃ (D : Addr) (us : List Addr), σ = [some (.str y), some (.ref bl), some (.ref wd), some (.ref hv), some (.ref L), some (.ref D), none, none] ∧ H' D = some (.lst (us.map V.ref)) ∧ Paired (ItA K H') us (ss.map (itF val)) ∧ Same H H', ?_, ?_⟩
      · refine ⟨_, rfl, bl, rfl, ⟨_, .of (s12 _ _ hb)⟩, fun D nD => ?_⟩
        refine lc_it walk_list (fun i H' => ∃ us : List Addr, H' D = some (.lst (us.map V.ref)) ∧ Paired (ItA K H') us ((ss.take i).map (itF val)) ∧ us.length = i ∧ Same H2 H') ⟨[], upd_same, .nil, rfl, Same.new nD⟩ (fun i H' _ q => .of (q.choose_spec.2.2.2 _ _ (s12 _ _ hb))) ?_ ?_
        · rintro i x _ H3 hi ⟨us, h3, pr, lu, s3⟩ ⟨rfl, hx⟩
          rw [List.getElem?_map] at hx
          obtain ⟨t, ht, rfl⟩ := Option.map_eq_some_iff.mp hx
          obtain ⟨sp, hsp, hts⟩ := st.get ht
          have tk : ss.take (i + 1) = ss.take i ++ [sp] := by rw [List.take_add_one, hsp]; rfl
          have s13 := s12.trans s3
          rw [List.length_map, lt] at hi
          have fin : ∀ {t : Addr} {it : Itm}, H3 t = none → it = itF val sp → ∃ acc : List V, (upd H3 t (HO.tup (itV it))) D = some (.lst acc) ∧ acc.length < sizeLine ∧ ∃ us : List Addr, (upd (upd H3 t (HO.tup (itV it))) D (HO.lst (acc ++ [V.ref t]))) D = some (.lst (us.map V.ref)) ∧ Paired (ItA K (upd (upd H3 t (HO.tup (itV it))) D (HO.lst (acc ++ [V.ref t])))) us ((ss.take (i + 1)).map (itF val)) ∧ us.length = i + 1 ∧ Same H2 (upd (upd H3 t (HO.tup (itV it))) D (HO.lst (acc ++ [V.ref t]))) := fun {t it} nt e => by
            have s5 : Same H3 (upd H3 t (HO.tup (itV it))) := Same.new nt
            refine ⟨_, s5 _ _ h3, by rw [List.length_map]; omega, us ++ [t], by rw [upd_same, List.map_append]; rfl, ?_, by rw [List.length_append, lu]; rfl, (s3.trans s5).mut nD⟩
            rw [tk, List.map_append]
            refine paired_snoc (paired_same pr fun _ _ q => (q.same s5).sameN (SameN.refl.put (s5 _ _ h3))) (.of ?_)
            rw [upd_ne (ne_none nt h3)]
            show _ = some (HO.tup (itV (itF val sp)))
            rw [← e]; exact upd_same
          refine ⟨t, _, rfl, .of (s13 _ _ hts), rfl, _, _, rfl, _, _, rfl, rfl, rfl, yes_then ?_⟩
          refine ⟨_, rfl, rfl, _, rfl, ite2 (fun q => ?_) fun q => ?_⟩
          · have q : sp.1 = ("read" : Str) := V.str.inj (of_decide_eq_true q)
            refine ⟨_, rfl, wd, rfl, .inl ⟨_, .inl (s13 _ _ hwd)⟩, _, rfl, _, (show DGet H3 wd (kV (Sum.inr sp.2)) (valV kvs (Sum.inr sp.2)) from .k (s13 _ _ hwd)), (by show 2 ≤ sizeLine; decide), fun t nt => ?_⟩
            have ev : (valV kvs (Sum.inr sp.2)).getD (.int 0) = .int (val sp.2) := by
              rcases vals sp.2 with a | ⟨a, b⟩
              · rw [a]; rfl
              · rw [a, b]; rfl
            rw [ev]
            exact fin (it := .num (val sp.2)) nt (by unfold itF; rw [if_pos q])
          · have q : ¬ sp.1 = ("read" : Str) := fun e => q (decide_eq_true (by rw [e]))
            refine ⟨_, rfl, (by show 2 ≤ sizeLine; decide), fun t nt => ?_⟩
            exact fin (it := .wd sp.2) nt (by unfold itF; rw [if_neg q])
        · rintro H3 ⟨us, h3, pr, lu, s3⟩
          rw [List.length_map, lt, List.take_length] at pr
          exact ⟨D, us, rfl, h3, pr, s12.trans s3⟩
      · rintro σ H3 ⟨D, us, rfl, h3, pr, s3⟩
        refine ⟨_, rfl, (by show 1 ≤ sizeLine; decide), fun o no => ⟨(by show 2 ≤ sizeLine; decide), fun t nt => ?_⟩⟩
        have s4 := Same.new (o := .lst [.ref D]) no
        have s5 := Same.new (o := .tup [.str "rows", .ref o]) nt
        refine k t _ ((s3.trans s4).trans s5) ?_
        unfold DueA
        rw [e]
        exact ⟨o, [D], upd_same, s5 _ _ upd_same, .cons ⟨us, s5 _ _ (s4 _ _ h3), paired_same pr fun _ _ q => (q.same s4).same s5⟩ .nil⟩
end
end Mf
namespace Mf
open PySem L2
theorem mergeK_strs {f : Str → V} : ∀ {zs : List Str} {kvs : List (Key × V)}, zs.Nodup → (∀ z ∈ zs, valV kvs (Sum.inr z) = none) → mergeK kvs (zs.map fun z => (Sum.inr z, f z)) = kvs ++ zs.map fun z => (Sum.inr z, f z)
  | [], kvs, _, _ => (List.append_nil _).symm
  | z :: zs, kvs, nd, h => by
    rw [List.nodup_cons] at nd
    show mergeK (putK kvs (Sum.inr z) (f z)) (zs.map fun z => (Sum.inr z, f z)) = _
    have e := putK_new (f z) (h z List.mem_cons_self)
    rw [e, mergeK_strs nd.2 (fun y hy => ?_), List.append_assoc]; rfl
    have hn := h y (List.mem_cons_of_mem _ hy)
    have ne : ¬ (Sum.inr z : Key) = Sum.inr y := fun e => nd.1 (by rw [Sum.inr.inj e]; exact hy)
    unfold valV at hn ⊢
    rw [List.find?_append]
    rw [Option.map_eq_none_iff] at hn
    rw [hn]
    simp [ne]
theorem valV_strs {f : Str → V} : ∀ {zs : List Str} (z : Str), valV (zs.map fun z => ((Sum.inr z : Key), f z)) (Sum.inr z) = if z ∈ zs then some (f z) else none
  | [], z => by simp [valV]
  | y :: zs, z => by
    have ih := valV_strs (f := f) (zs := zs) z
    unfold valV at ih ⊢
    rw [List.map_cons, List.find?_cons]
    by_cases e : y = z
    · subst e
      simp
    · have ne : decide ((Sum.inr y : Key) = Sum.inr z) = false := by simpa using e
      simp only [ne]
      rw [ih]
      simp [Ne.symm e]
theorem passFA {X : Cx} (σ : L2.St) : PassesAt (L2.CX X.prog X.w) X σ (fun _ _ _ => False) := fun pins H s e s' I h => passF pins σ H s e s' I h
/-- f(..) with defaults, f may raise -/
theorem pe_caldS {X : Cx} {CX : CXT} {k : Nat} {x : Str} {ps : List Str} {sp : Sp} {dvs : List V} {E : L2.St → XK} {e : Expr} {es : List Expr} {t : TA} {p pos : Pos} (c : CalD X.prog X.w X.K X.mg X.base CX k x ps sp dvs) (hr : Room k X.A) (hx : ∀ σ, PassesAt CX X σ (E σ)) (ha : PA X (e :: es) t) (hg : Gl X x := by rfl)
    (hdb : (x == ("__debug__" : Str)) = false := by decide) (he : starEach (e :: es) X.env = (false, eval e X.env) :: starEach es X.env := by rfl) (hpl : (backTo pos (starEach es X.env)).any (·.1) = false := by rfl) : PE X (.Call (.Name x p) (e :: es) [] pos) (fun σ H Q => t σ H fun vs H1 => sp (vs ++ dvs) H1 Q (E σ)) := by
  obtain ⟨f, fd, ds, F, m, kp, b, v⟩ := c.ex
  constructor
  intro pins s σ H Q I h
  exact wpAny_Call_Name_kw (ld_glob I hg m (PySem.W.callWith_K (h₀ := X.base) I.ok.mod.kin kp (thn (ha.run pos pins s σ H _ I h) fun us s2 ⟨vs, H2, J, rel, goal⟩ => ⟨J.kIn, run_inS F hr b v (hx σ) J.env0 J rel goal⟩) he hpl) hdb)
theorem paired_rev {α β : Type} {R : α → β → Prop} {xs : List α} {ys : List β} (r : Paired R xs ys) : Paired R xs.reverse ys.reverse := by
  induction r with
  | nil => exact .nil
  | cons a _ ih => rw [List.reverse_cons, List.reverse_cons]; exact paired_snoc ih a
/-- some of the places with their numbers -/
def kvD (ks : List Str) (val : Str → Int) : List (Key × V) := ks.map fun z => ((Sum.inr z : Key), V.int (val z))
theorem kvD_rev (ks : List Str) (val : Str → Int) : (kvD ks val).reverse = kvD ks.reverse val := by unfold kvD; rw [List.map_reverse]
theorem kvD_merge {ks : List Str} (nd : ks.Nodup) (val : Str → Int) : mergeK [] (kvD ks val) = kvD ks val := by
  have := mergeK_strs (f := fun z => V.int (val z)) (kvs := []) nd (fun _ _ => rfl)
  rwa [List.nil_append] at this
theorem kvD_val {ks : List Str} {val : Str → Int} (h : ∀ z, ¬ z ∈ ks → val z = 0) (z : Str) : valV (kvD ks val) (Sum.inr z) = some (.int (val z)) ∨ (valV (kvD ks val) (Sum.inr z) = none ∧ val z = 0) := by
  have e := valV_strs (f := fun z => V.int (val z)) (zs := ks) z
  unfold kvD
  rw [e]
  by_cases c : z ∈ ks
  · exact .inl (if_pos c)
  · exact .inr ⟨if_neg c, h z c⟩
theorem NumW.form {kvs : List (Key × V)} {ps : List Str} {val : Str → Int} (x : NumW kvs ps val) : ∃ ks : List Str, kvs = kvD ks val ∧ ks.Nodup ∧ (∀ z ∈ ks, z ∈ ps) ∧ ks.length < 4000 ∧ ∀ z, ¬ z ∈ ks → val z = 0 := by
  obtain ⟨ks, a, nd, b, c, d, e⟩ := x
  refine ⟨ks, ?_, nd, b, c, fun z hz => ?_⟩
  · have go : ∀ (ks : List Str) (l : List (Key × V)), l.map (·.1) = ks.map Sum.inr → ks.Nodup → (∀ p ∈ l, ∃ n : Int, p.2 = .int n) → (∀ z ∈ ks, valV l (Sum.inr z) = some (.int (val z))) → l = kvD ks val := by
      intro ks
      induction ks with
      | nil => intro l h _ _ _; exact List.map_eq_nil_iff.mp h
      | cons k ks ih =>
        intro l h nd hi hv
        cases l with
        | nil => cases h
        | cons q l =>
          rw [List.map_cons, List.map_cons] at h
          obtain ⟨h1, h2⟩ := List.cons.inj h
          rw [List.nodup_cons] at nd
          have v0 := hv k List.mem_cons_self
          rw [valV_pos h1] at v0
          have e0 : q = ((Sum.inr k : Key), V.int (val k)) := Prod.ext h1 (Option.some.inj v0)
          have := ih l h2 nd.2 (fun p hp => hi p (List.mem_cons_of_mem _ hp)) fun z hz => by
            have v1 := hv z (List.mem_cons_of_mem _ hz)
            rwa [valV_neg (by rw [h1]; exact fun e => nd.1 (by rw [Sum.inr.inj e]; exact hz))] at v1
          rw [this, e0]; rfl
    refine go ks kvs a nd d fun z hz => (e z).elim id fun q => ?_
    exfalso
    have hz : (Sum.inr z : Key) ∈ kvs.map (·.1) := by rw [a]; exact List.mem_map.mpr ⟨z, hz, rfl⟩
    obtain ⟨kv, h1, h2⟩ := List.mem_map.mp hz
    have q1 := q.1
    unfold valV at q1
    rw [Option.map_eq_none_iff, List.find?_eq_none] at q1
    exact q1 kv h1 (by simpa using h2)
  · exact (e z).elim (fun q => by rw [valV_keys a hz] at q; cases q) fun q => q.2
/-- the items of a dict of numbers, as data -/
def itsD (ks : List Str) (val : Str → Int) : PyData := .list (ks.map fun z => .tuple [.str z, .int (val z)])
theorem dp_its {K : PySem.W.Frag} {H : Hp} {val : Str → Int} : ∀ {ts : List Addr} {ks : List Str}, Paired (fun (t : Addr) (q : Key × V) => H t = some (.tup [kV q.1, q.2])) ts (kvD ks val) → DpAll K H (ts.map V.ref) (ks.map fun z => .tuple [.str z, .int (val z)])
  | [], [], _ => .nil
  | [], _ :: _, h => by cases h
  | _ :: _, [], h => by cases h
  | t :: ts, k :: ks, h => by
    unfold kvD at h
    rw [List.map_cons] at h
    cases h with
    | cons a b => exact .cons (.tup (.of a) (.cons (.str _) (.cons (.int _) .nil))) (dp_its b)
theorem sh_its {ks : List Str} {val : Str → Int} (h : ∀ z ∈ ks, IsName z) : SeqAt.shaped (itsD ks val) = true := (Sh.listM (k := 1) (f := fun z : Str => PyData.tuple [.str z, .int (val z)]) fun z hz => .tuple fun x hx => by
  simp only [List.mem_cons, List.not_mem_nil, or_false] at hx
  rcases hx with rfl | rfl
  · exact .str (h z hz).ok
  · exact ⟨rfl, Nat.le_refl _⟩).sh
theorem eqv_its (ks : List Str) (val : Str → Int) : PyData.eqv (itsD ks val) (itsD ks val) = true := by
  refine (eqvMap (f := fun z : Str => PyData.tuple [.str z, .int (val z)]) (fun a b => ?_) ks ks).trans (decide_eq_true rfl)
  show (PyData.eqv (.str a) (.str b) && (PyData.eqv (.int (val a)) (.int (val b)) && true)) = _
  rw [eqv_str]
  by_cases c : a = b
  · subst c
    rw [decide_eq_true rfl]
    show (true && (decide (val a = val a) && true)) = true
    rw [decide_eq_true rfl]; rfl
  · rw [decide_eq_false c, Bool.false_and]
section
variable {P : Program} {w : World} {K : PySem.W.Frag} {mg : Str → Option Value} {base : Heap} {Cp C CR CF : Addr}
theorem pg_same {H H' : Hp} {p dx : Addr} (hp : H p = none) (hd : H dx = none) (kp : ∀ b o, b ≠ p → (upd (upd H dx (.own p)) p (.ins C dx [])) b = some o → H' b = some o) : Same H H' :=
  fun b o e => kp b o (ne_of_none e hp) ((ns_grow hp hd) b o e)
theorem PrL.prA {H : Hp} {p : Addr} {r : Pr} (x : PrL H p r) : PrA K H p r := ⟨.of x.1, .inl (.of x.2.1), x.2.2⟩
theorem LisP.prA {H : Hp} {a : Addr} {ps : List Addr} {rs : List Pr} (x : LisP H a ps rs) : Paired (PrA K H) ps rs := paired_same x.2 fun _ _ q => q.prA
/-- a dict changes that is none of this -/
theorem RsA.dk {H : Hp} {p dx d q : Addr} {us : List Addr} {R : List (List Itm)} {kvs : List (Key × V)} {o : HO} (x : RsA K CR H p dx d us R) (h : H q = some (.dK kvs)) : RsA K CR (upd H q o) p dx d us R := by
  have it : ∀ {t : Addr} {i : Itm}, ItA K H t i → ItA K (upd H q o) t i := fun {t i} z => by
    rcases z with (z | ⟨u, z⟩) | z
    · exact .inl (.inl (by rw [upd_ne (ne_of z h (by intro y; cases y))]; exact z))
    · exact .inl (.inr ⟨u, by rw [upd_ne (ne_of z h (by intro y; cases y))]; exact z⟩)
    · exact .inr z
  refine ⟨by rw [upd_ne (ne_of x.o h (by intro y; cases y))]; exact x.o, by rw [upd_ne (ne_of x.l.1 h (by intro y; cases y))]; exact x.l.1, paired_same x.l.2 fun u row z => ?_⟩
  obtain ⟨ts, a, b⟩ := z
  exact ⟨ts, by rw [upd_ne (ne_of a h (by intro y; cases y))]; exact a, paired_same b fun _ _ y => it y⟩
/-- the hurt places, as they lie -/
def HurtA (K : PySem.W.Frag) (H : Hp) (ps : List Str) (v : V) : Prop := ∃ (h : Addr) (br : List Str), v = .ref h ∧ (H h = some (.lst (br.map V.str)) ∨ H h = some (.tup (br.map V.str))) ∧ br.length < 4000 ∧ ∀ z ∈ br, z ∈ ps
theorem HurtA.same {H H' : Hp} {ps : List Str} {v : V} (x : HurtA K H ps v) (s : Same H H') : HurtA K H' ps v :=
  let ⟨h, br, a, b, c⟩ := x
  ⟨h, br, a, b.elim (fun q => .inl (s _ _ q)) (fun q => .inr (s _ _ q)), c⟩
/-! ### law -/
abbrev sLaw : Stmt := top 73
theorem scLaw : FnScope ["_law_script", "_law_source_here", "_law_body", "_law_procedures", "_law_program", "_law_worths", "_law_passed", "_law_hurt", "_law_result", "_law_names_here", "_law_places", "_law_place"] ["_law_script"] (defScope sLaw) := ⟨rfl, rfl, rfl, by decide +kernel, rfl, by decide +kernel, by decide +kernel⟩
set_option maxHeartbeats 4000000 in
theorem ok_law {f : Addr} {fd : FuncData} (F : Fun K "law" "law" sLaw f fd) (T : PgC K mg Cp) (TR : RsC K mg CR) (mk : CalC P w K mg base CX0 5 "Program" Cp ["self", "procedures"] (spPgInit K Cp) [])
    (c_source : Cal P w K mg base CX0 1 "_law_source" ["_law_script"] (spSource K)) (c_draw : Cal P w K mg base CX0 1 "_law_draw" psD spDraw) (c_names : Cal P w K mg base CX0 3 "_law_names" ["_law_source_here", "_law_many"] spNames)
    (c_body_drawn : Cal P w K mg base CX0 3 "_law_body_drawn" ["_law_source_here", "_law_places"] spBodyD) (c_copy : Cal P w K mg base CX0 1 "_law_copy" ["_law_procedures"] spCopy) (c_numbers : Cal P w K mg base CX0 3 "_law_numbers" ["_law_source_here", "_law_places"] spNumbers) (c_subset : Cal P w K mg base CX0 2 "_law_subset" ["_law_source_here", "_law_row"] (spSubset K))
    (c_plain_try : Cal P w K mg base CX0 10 "_law_plain_try" ["_law_program", "_law_name_here", "_law_worths", "_law_hurt"] (spTry K Cp C)) (c_due : Cal P w K mg base CX0 1 "_law_due" ["_law_name_here", "_law_body", "_law_worths", "_law_hurt"] (spDue K)) (o_rows : CalM P w K mg base CX0 1 CR "rows" ["self"] (spRsRows K CR))
    {aB aS : Addr} {oB oS : Obj} (lB : K.lookup aB = some oB) (cB : oB.cls = .type "tuple") (qB : ∀ H, SqT K H aB []) (lS : K.lookup aS = some oS) (cS : oS.cls = .type "tuple") (qS : ∀ H, SqT K H aS [])
    (d_plain : CalD P w K mg base (L2.CX P w) 9 "plain_result" ["program", "name", "numbers", "broken", "spared"] (spPlain K Cp C CR CF) [.non, .ref aB, .ref aS]) (k_plain : CalK P w K mg base (L2.CX P w) 9 "plain_result" ["program", "name", "numbers", "broken", "spared"] (spPlain K Cp C CR CF) 2 ["numbers"] (fun vs zs => vs ++ zs ++ [.ref aB, .ref aS]))
    (mList : mg "list" = none) (mTuple : mg "tuple" = none) (mDict : mg "dict" = none) : FnOk P w K mg base CX0 11 f fd ["_law_script"] (spLaw K) := by
  refine F.ok scLaw (fun vs H Q E h => ?_) (fun cdv A outer s H vs Q E hr h => ?_)
  · obtain ⟨a, ns, rfl, _⟩ := h
    rfl
  · obtain ⟨a, ns, rfl, hs, hl, k⟩ := h
    have mg_Program := T.mgC
    have hr1 : Room 1 _ := hr.mono (by decide : 1 ≤ 10); have hr2 : Room 2 _ := hr.mono (by decide : 2 ≤ 10); have hr3 : Room 3 _ := hr.mono (by decide : 3 ≤ 10); have hr6 : Room 6 _ := hr.mono (by decide : 6 ≤ 10)
    have hr_source := hr1; have hr_draw := hr1; have hr_copy := hr1; have hr_due := hr1; have hr_subset := hr2; have hr_names := hr3; have hr_body_drawn := hr3; have hr_numbers := hr3; have hr_plain_try := hr
    have hr_plain_result : Room 9 _ := hr.mono (by decide : 9 ≤ 10)
    refine ⟨_, (pss_cons (ps_set (i := 1) scLaw.nd rfl (by first | exact Or.inl rfl | exact Or.inr rfl) (pe_cal c_source hr_source pass0 (pa_cons (pv 0) pa_nil)))
      (pss_cons (ps_par (i := 9) (j := 10) (by rfl) scLaw.nd rfl rfl (by decide) rfl rfl (pa_cons (pe_cal c_names hr_names pass0 (pa_cons (pv 1) (pa_cons pe_int pa_nil))) (pa_cons (pe_cal c_names hr_names pass0 (pa_cons (pv 1) (pa_cons (pe_op op_add pe_int (pe_cal c_draw hr_draw pass0 (pa_cons (pv 1) (pa_cons pe_int pa_nil)))) pa_nil))) pa_nil)) (by rfl))
      (pss_cons (ps_set (i := 2) scLaw.nd rfl (by first | exact Or.inl rfl | exact Or.inr rfl) (pe_cal c_body_drawn hr_body_drawn pass0 (pa_cons (pv 1) (pa_cons (pv 10) pa_nil))))
      (pss_cons (ps_set (i := 3) scLaw.nd rfl (by first | exact Or.inl rfl | exact Or.inr rfl) (pe_lst (pa_cons (pe_tup (pa_cons (pe_ix (ixl K) (pv 9) pe_int (fun _ _ => rfl)) (pa_cons (pv 2) pa_nil))) (pa_cons (pe_tup (pa_cons (pe_ix (ixl K) (pv 9) pe_int (fun _ _ => rfl)) (pa_cons (pe_lc (own := [("_law_place", 11)]) (g := (gName 11)) (tt := tYes) rfl scLaw.nd (pi_list (pv 10)) (blkOk_by (own := [("_law_place", 11)]) (N := ["_law_script", "_law_source_here", "_law_body", "_law_procedures", "_law_program", "_law_worths", "_law_passed", "_law_hurt", "_law_result", "_law_names_here", "_law_places", "_law_place"]) (sc := defScope sLaw) (by decide +kernel)) (fun _ _ _ _ _ => (pg_name (i := 11) scLaw.nd rfl (by first | exact Or.inl rfl | exact Or.inr rfl))) (fun _ _ _ _ _ => pts_nil) (fun _ _ _ _ _ => (pe_tup (pa_cons pe_str (pa_cons (pv 11) pa_nil))))) pa_nil))) pa_nil))))
      (C8.pss_cut (ps_if (pt_cmpR op_eq (pe_cal c_draw hr_draw pass0 (pa_cons (pv 1) (pa_cons pe_int pa_nil))) pe_int (nomark _))
        (pss_one (ps_set (i := 3) scLaw.nd rfl (by first | exact Or.inl rfl | exact Or.inr rfl) (pe_revL (pv 3)))) pss_nil)
      (pss_cons (ps_set (i := 4) scLaw.nd rfl (by first | exact Or.inl rfl | exact Or.inr rfl) (pe_mkc mk hr6 pass0 (pa_cons (pe_cal c_copy hr_copy pass0 (pa_cons (pv 3) pa_nil)) pa_nil)))
      (pss_cons (ps_set (i := 5) scLaw.nd rfl (by first | exact Or.inl rfl | exact Or.inr rfl) (pe_cal c_numbers hr_numbers pass0 (pa_cons (pv 1) (pa_cons (pv 10) pa_nil))))
      (pss_cons (ps_set (i := 6) scLaw.nd rfl (by first | exact Or.inl rfl | exact Or.inr rfl) (pe_callTy (call_dictP rfl) (by rfl) mDict (by decide +kernel) (pa_cons (pe_revL (LiI.pe_listItems rfl (pv 5) (by rfl) mList (by decide +kernel))) pa_nil)))
      (pss_cons (ps_for PassesOwn.never rfl (pi_tup (pe_tup (pa_cons (pe_lst pa_nil) (pa_cons (pe_cal c_subset hr_subset pass0 (pa_cons (pv 1) (pa_cons (pv 10) pa_nil))) (pa_cons (pe_callTy (k_tuple K) (by rfl) mTuple (by decide +kernel) (pa_cons (pv 10) pa_nil)) pa_nil))))) (pg_name (i := 7) scLaw.nd rfl (by first | exact Or.inl rfl | exact Or.inr rfl))
        (pss_cons (ps_if (pt_cmpR (neD K hr) (pe_cal c_plain_try hr_plain_try pass0 (pa_cons (pv 4) (pa_cons (pe_ix (ixl K) (pv 9) pe_int (fun _ _ => rfl)) (pa_cons (pv 6) (pa_cons (pv 7) pa_nil))))) (pe_cal c_due hr_due pass0 (pa_cons (pe_ix (ixl K) (pv 9) pe_int (fun _ _ => rfl)) (pa_cons (pv 2) (pa_cons (pv 5) (pa_cons (pv 7) pa_nil))))) (nomark _))
          (pss_one (ps_ret pe_bl)) pss_nil)
        (pss_one (ps_if (pt_cmpR (neD K hr) (pe_cal c_plain_try hr_plain_try pass0 (pa_cons (pv 4) (pa_cons (pe_ix (ixl K) (pv 9) pe_int (fun _ _ => rfl)) (pa_cons pe_non (pa_cons (pv 7) pa_nil))))) (pe_cal c_due hr_due pass0 (pa_cons (pe_ix (ixl K) (pv 9) pe_int (fun _ _ => rfl)) (pa_cons (pv 2) (pa_cons pe_dnewK (pa_cons (pv 7) pa_nil))))) (nomark _))
          (pss_one (ps_ret pe_bl)) pss_nil))))
      (pss_cons (ps_if (pt_cmpR (neD K hr) (LiI.pe_listItems rfl (pv 6) (by rfl) mList (by decide +kernel)) (pe_revL (LiI.pe_listItems rfl (pv 5) (by rfl) mList (by decide +kernel))) (nomark _))
        (pss_one (ps_ret pe_bl)) pss_nil)
      (pss_cons (ps_set (i := 8) scLaw.nd rfl (by first | exact Or.inl rfl | exact Or.inr rfl) (pe_calkS k_plain hr_plain_result (fun σ => passFA σ) (pa_cons (pv 4) (pa_cons (pe_ix (ixl K) (pv 9) pe_int (fun _ _ => rfl)) pa_nil)) (pk_cons (pv 6) pk_nil)))
      (pss_cons (ps_expr (pe_dclear (pv 6)))
      (pss_cons (ps_if (pt_cmpR (neD K hr) (pe_lst (pa_cons (pe_tup (pa_cons pe_str (pa_cons (om_meth0 (pv 8) TR.ins.cl o_rows hr1 pass0) pa_nil))) pa_nil)) (pe_lst (pa_cons (pe_cal c_due hr_due pass0 (pa_cons (pe_ix (ixl K) (pv 9) pe_int (fun _ _ => rfl)) (pa_cons (pv 2) (pa_cons (pv 5) (pa_cons (pe_lst pa_nil) pa_nil))))) pa_nil)) (nomark _))
        (pss_one (ps_ret pe_bl)) pss_nil)
      (pss_one (ps_ret (pe_cmpR (eqD K hr) (om_meth0 (pe_caldS d_plain hr_plain_result (fun σ => passFA σ) (pa_cons (pv 4) (pa_cons (pe_ix (ixl K) (pv 9) pe_int (fun _ _ => rfl)) pa_nil))) TR.ins.cl o_rows hr1 pass0) (pe_ix (ixt K) (pe_cal c_due hr_due pass0 (pa_cons (pe_ix (ixl K) (pv 9) pe_int (fun _ _ => rfl)) (pa_cons (pv 2) (pa_cons pe_dnewK (pa_cons (pe_lst pa_nil) pa_nil))))) pe_int (fun _ _ => rfl)) (nomark _))))))))))))))))), ?_⟩
    have big : (5000 : Nat) < sizeLine := by decide
    refine ⟨_, rfl, a, ns, rfl, hs, hl, fun g H1 _ s1 S1 => ?_⟩
    refine ⟨_, rfl, g, 2, 990000000, rfl, by decide, S1.mono (by decide), fun nl nms H2 ln nd nm nnl hn2 k2 S2 => ?_⟩
    refine ⟨_, rfl, _, rfl, g, 4, 980000000, rfl, by decide, by decide, S2.mono (by omega), fun v H3 v0 v1 k3 S3 => ⟨_, _, rfl, rfl, ?_⟩⟩
    obtain ⟨many, em⟩ : ∃ many : Nat, 1 + v = (many : Int) := ⟨(1 + v).toNat, by omega⟩
    have ml : 1 ≤ many ∧ many ≤ 4 := by omega
    refine ⟨g, many, 970000000, (by show [V.ref g, V.int (1 + v)] = _; rw [em]), by omega, S3.mono (by omega), fun pl zs H4 lz ndz nz npl hp4 k4 S4 => ⟨_, _, rfl, ?_⟩⟩
    have hn4 := k4 _ _ (strs_ne S3 (k3 _ _ (strs_ne S2 hn2) hn2)) (k3 _ _ (strs_ne S2 hn2) hn2)
    have nlg := strs_ne S2 hn2
    have plg := strs_ne S4 hp4
    have zne : zs ≠ [] := fun e => by rw [e] at lz; have : (0 : Nat) = many := lz; omega
    -- the body
    refine ⟨_, rfl, _, rfl, g, pl, zs, 960000000, rfl, S4.mono (by omega), hp4, zne, by omega, fun b ts ss H5 nb hb st ls fS k5 S5 => ?_⟩
    have hn5 := k5 _ _ nlg hn4
    have hp5 := k5 _ _ plg hp4
    clear S1 k2 S2 hn2 k3 S3 k4 S4 hn4 hp4
    have fl : FlatB ss := FlatS.b fS
    have nmS : ∀ s ∈ ss, IsName s.2 := fun s hs => (fS s hs).elim (fun q => (nz _ q.2).1) fun q => q.2
    obtain ⟨n0, n1, rfl⟩ : ∃ n0 n1 : Str, nms = [n0, n1] := by
      match nms, ln with
      | [x, y], _ => exact ⟨x, y, rfl⟩
    have i0 : IsName n0 := (nm n0 (by simp)).1
    have i1 : IsName n1 := (nm n1 (by simp)).1
    have ix0 : atI ([n0, n1].map V.str) ((0 : Nat) : Int) = some (.str n0) := atI_nat rfl
    have ix1 : atI ([n0, n1].map V.str) ((1 : Nat) : Int) = some (.str n1) := atI_nat rfl
    refine ⟨_, rfl, nl, _, _, _, rfl, rfl, .of hn5, ix0, _, rfl, (by show 2 ≤ sizeLine; decide), fun p0 np0 => ?_⟩
    have s6 := Same.new (o := .tup [.str n0, .ref b]) np0
    refine ⟨_, rfl, nl, _, _, _, rfl, rfl, .of (s6 _ _ hn5), ix1, _, rfl, pl, rfl, ⟨_, .of (s6 _ _ hp5)⟩, fun b2 nb2 => ?_⟩
    have hp0 : (upd H5 p0 (.tup [.str n0, .ref b])) p0 = some (.tup [.str n0, .ref b]) := upd_same
    have hp6 := s6 _ _ hp5
    have S6 := S5.same s6
    generalize upd H5 p0 (.tup [.str n0, .ref b]) = H6 at s6 hp0 hp6 S6 nb2 ⊢
    refine lc_it walk_list (fun i H' => ∃ us : List Addr, us.length = i ∧ H' b2 = some (.lst (us.map V.ref)) ∧ StA H' us ((zs.take i).map fun z => (("read" : Str), z)) ∧ Same H6 H') ⟨[], rfl, upd_same, .nil, Same.new nb2⟩ (fun i H' _ q => .of (q.choose_spec.2.2.2 _ _ hp6)) ?_ ?_
    · rintro i x _ H7 hi ⟨us, lu, h7, pr, s7⟩ ⟨rfl, hx⟩
      rw [List.getElem?_map] at hx
      obtain ⟨z, hz, rfl⟩ := Option.map_eq_some_iff.mp hx
      have tk : zs.take (i + 1) = zs.take i ++ [z] := by rw [List.take_add_one, hz]; rfl
      rw [List.length_map] at hi
      refine ⟨rfl, yes_then ⟨_, rfl, (by show 2 ≤ sizeLine; decide), fun t nt => ?_⟩⟩
      have s8 := Same.new (o := .tup [.str "read", .str z]) nt
      refine ⟨_, s8 _ _ h7, by rw [List.length_map]; omega, us ++ [t], by rw [List.length_append, lu]; rfl, by rw [upd_same, List.map_append]; rfl, ?_, (s7.trans s8).mut nb2⟩
      rw [tk, List.map_append]
      refine paired_snoc ((pr.same s8).sameN (SameN.refl.put (s8 _ _ h7))) ?_
      rw [upd_ne (ne_none nt h7)]; exact upd_same
    rintro H7 ⟨us, lu, h7, pr, s7⟩
    rw [List.length_map] at lu pr
    rw [List.take_length] at pr
    refine ⟨(by show 2 ≤ sizeLine; decide), fun p1 np1 => ⟨(by show 2 ≤ sizeLine; decide), fun prl nprl => ?_⟩⟩
    have q1 := Same.new (o := .tup [.str n1, .ref b2]) np1
    have q2 := Same.new (o := .lst [.ref p0, .ref p1]) nprl
    have hp1 := q2 _ _ (upd_same (H := H7) (a := p1) (o := .tup [.str n1, .ref b2]))
    have hprl : (upd (upd H7 p1 (.tup [.str n1, .ref b2])) prl (.lst [.ref p0, .ref p1])) prl = some (.lst [.ref p0, .ref p1]) := upd_same
    have s8 := q1.trans q2
    generalize upd (upd H7 p1 (.tup [.str n1, .ref b2])) prl (.lst [.ref p0, .ref p1]) = H8 at s8 hp1 hprl ⊢
    have s68 := s7.trans s8
    have s58 := s6.trans s68
    clear q1 q2
    have R0 : PrL H8 p0 ⟨n0, b, ts, ss⟩ := ⟨s68 _ _ hp0, s58 _ _ hb, st.same s58⟩
    have R1 : PrL H8 p1 ⟨n1, b2, us, zs.map fun z => (("read" : Str), z)⟩ := ⟨hp1, s8 _ _ h7, pr.same s8⟩
    have hn8 := s58 _ _ hn5
    have hp8 := s58 _ _ hp5
    have hb8 := s58 _ _ hb
    have st8 := st.same s58
    have S8 := S6.same s68
    clear s6 s7 s8 s68 s58 hp0 hp1 h7 pr hn5 hp5 hp6 hb st S5 S6
    generalize er0 : (⟨n0, b, ts, ss⟩ : Pr) = r0 at R0
    generalize er1 : (⟨n1, b2, us, zs.map fun z => (("read" : Str), z)⟩ : Pr) = r1 at R1
    -- their order
    refine ⟨fun σ' H' => ∃ (prl' : Addr) (ps' : List Addr) (rs : List Pr), σ' = [some (.ref a), some (.ref g), some (.ref b), some (.ref prl'), none, none, none, none, none, some (.ref nl), some (.ref pl), none] ∧ LisP H' prl' ps' rs ∧ (rs = [r0, r1] ∨ rs = [r1, r0]) ∧ Kp g H8 H' ∧ Src H' g 950000000, ?_, ?_⟩
    · refine ⟨_, rfl, g, 2, 950000000, rfl, by decide, by decide, S8.mono (by omega), fun u H9 u0 u1 k9 S9 => ⟨rfl, _, rfl, ?_⟩⟩
      have L9 : LisP H9 prl [p0, p1] [r0, r1] := ⟨k9 _ _ (refs_ne (ts := [p0, p1]) S8 hprl) hprl, .cons (R0.kp k9 S8) (.cons (R1.kp k9 S8) .nil)⟩
      refine ite2 (fun _ => ?_) fun _ => ?_
      · refine ⟨_, rfl, prl, _, rfl, .of L9.1, fun pq npq => ?_⟩
        have s10 := Same.new (o := .lst ([V.ref p0, V.ref p1].reverse)) npq
        exact ⟨pq, [p1, p0], [r1, r0], rfl, ⟨upd_same, .cons ((R1.kp k9 S8).same s10) (.cons ((R0.kp k9 S8).same s10) .nil)⟩, .inr rfl, k9.then s10, S9.same s10⟩
      · exact ⟨prl, [p0, p1], [r0, r1], rfl, L9, .inl rfl, k9, S9⟩
    rintro σ' H9 ⟨prl', ps', rs, rfl, L9, ers, k9, S9⟩
    have nd2 : ¬ n0 = n1 := fun e => by rw [e] at nd; simp at nd
    have e0 : r0.name = n0 ∧ r0.ss = ss := by rw [← er0]; exact ⟨rfl, rfl⟩
    have e1 : r1.name = n1 ∧ r1.ss = zs.map fun z => (("read" : Str), z) := by rw [← er1]; exact ⟨rfl, rfl⟩
    have gS : ∀ (nsx : List Str), ∀ r ∈ [r0, r1], r.ss.length ≤ 12 ∧ ∀ s ∈ r.ss, GoodS nsx s := fun nsx r hr => by
      rcases List.mem_cons.mp hr with rfl | hr
      · rw [e0.2]
        refine ⟨ls, fun s hs => ?_⟩
        rcases fS s hs with q | q
        · exact ⟨by rw [q.1]; exact stepB_of (show ("read" : Str) ∈ kinds by decide +kernel) (nmS s hs), fun h => absurd (q.1 ▸ h) (by decide +kernel)⟩
        · exact ⟨by rw [q.1]; exact stepB_of (show ("say" : Str) ∈ kinds by decide +kernel) (nmS s hs), fun h => absurd (q.1 ▸ h) (by decide +kernel)⟩
      · rw [List.mem_singleton.mp hr, e1.2]
        refine ⟨by rw [List.length_map]; omega, fun s hs => ?_⟩
        obtain ⟨z, hz, rfl⟩ := List.mem_map.mp hs
        exact ⟨stepB_of (show ("read" : Str) ∈ kinds by decide +kernel) (nz z hz).1, fun h => absurd (show ("read" : Str) ∈ calling from h) (by decide +kernel)⟩
    have memR : ∀ r, r ∈ rs ↔ r ∈ [r0, r1] := fun r => by
      rcases ers with rfl | rfl
      · exact Iff.rfl
      · simp [or_comm]
    have lenR : rs.length = 2 := by rcases ers with rfl | rfl <;> rfl
    have R : RightP rs := by
      refine rightP_of rfl ?_ (by rw [List.length_map, lenR]; decide) (fun e => by rw [List.map_eq_nil_iff.mp e] at lenR; cases lenR) (fun z hz => ?_) fun r hr => gS _ r ((memR r).mp hr)
      · rcases ers with rfl | rfl
        · show [r0.name, r1.name].Nodup
          rw [e0.1, e1.1]; simpa using nd2
        · show [r1.name, r0.name].Nodup
          rw [e0.1, e1.1]; simpa using fun e : n1 = n0 => nd2 e.symm
      · obtain ⟨r, hr, rfl⟩ := List.mem_map.mp hz
        rcases List.mem_cons.mp ((memR r).mp hr) with rfl | hr
        · rw [e0.1]; exact i0
        · rw [List.mem_singleton.mp hr, e1.1]; exact i1
    have reads : ∀ z ∈ zs, z ∈ readsOf rs := fun z hz => by
      refine List.mem_flatten.mpr ⟨readsIn r1.ss, List.mem_map.mpr ⟨r1, (memR r1).mpr (by simp), rfl⟩, ?_⟩
      rw [e1.2]
      exact reads_mem (s := (("read" : Str), z)) (List.mem_map.mpr ⟨z, hz, rfl⟩) rfl
    have hn9 := k9 _ _ (strs_ne S8 hn8) hn8
    have hp9 := k9 _ _ (strs_ne S8 hp8) hp8
    have hb9 := k9 _ _ (refs_ne S8 hb8) hb8
    have st9 := st8.sameN (k9.noL S8)
    clear S8 hn8 hp8 hb8 st8 k9 R0 R1 hprl
    -- the program
    refine ⟨_, rfl, prl', ps', rs, rfl, L9, by omega, fun q qs es HC LC eC nq frC ndC sC => ?_⟩
    have Re := rightP_pls eC R
    intro p dxp np ndx nex
    refine ⟨p, dxp, q, qs, es, rfl, upd_same, .inl (SameL (ns_grow np ndx) (.of LC.1)), paired_same (LisP.prA (K := K) LC) (fun _ _ z => z.same (ns_grow np ndx)), Re, fun HD PD kpD => ⟨rfl, ?_⟩⟩
    have sD := sC.trans (pg_same np ndx kpD)
    have hnD := sD _ _ hn9
    have hpD := sD _ _ hp9
    have hbD := sD _ _ hb9
    have stD := st9.same sD
    have SD := S9.same sD
    have readsE : ∀ z ∈ zs, z ∈ readsOf es := fun z hz => by rw [readsOf_pls, eC, ← readsOf_pls]; exact reads z hz
    obtain ⟨r, hrE, rn, rss⟩ : ∃ r ∈ es, r.name = n0 ∧ r.ss = ss := by
      have m := pls_mem ((memR r0).mpr (by simp))
      rw [← eC] at m
      obtain ⟨r, hr, he⟩ := List.mem_map.mp m
      exact ⟨r, hr, (congrArg Prod.fst he).trans e0.1, (congrArg Prod.snd he).trans e0.2⟩
    subst rn
    subst rss
    have inn : r.name ∈ es.map Pr.name := List.mem_map.mpr ⟨r, hrE, rfl⟩
    clear sC kpD LC frC ndC hn9 hp9 hb9 st9 S9 sD L9 nex np ndx nq gS memR lenR reads R ers eC e0 e1 er0 er1
    -- the numbers
    refine ⟨_, rfl, _, rfl, g, pl, zs, 940000000, rfl, strs_ne SD hpD, hpD, ndz, by omega, SD.mono (by omega), fun D kvs HE nD hD NW kE SE => ?_⟩
    obtain ⟨ks, ek, ndk, ink, lk, offk⟩ := NW.form
    generalize valOf kvs = val at NW ek offk
    subst ek
    have hnE := kE _ _ (strs_ne SD hnD) hnD
    have hpE := kE _ _ (strs_ne SD hpD) hpD
    have hbE := kE _ _ (refs_ne SD hbD) hbD
    have stE := stD.sameN (kE.noL SD)
    have PE := PD.sameN (kE.noL SD)
    clear SD hnD hpD hbD stD PD kE
    refine ⟨_, rfl, D, _, rfl, hD, fun HL pL tsL keepL nL nts npl hL prL => ⟨pL, _, rfl, .of hL, fun pr npr => ?_⟩⟩
    have q1 : Same HL (upd HL pr (.lst (tsL.map V.ref).reverse)) := Same.new npr
    refine ⟨pr, tsL.reverse, (kvD ks val).reverse, rfl, .of (by rw [upd_same, List.map_reverse]), paired_rev (paired_same prL fun _ _ z => .of (q1 _ _ z)), fun dd ndd => ?_⟩
    rw [kvD_rev, kvD_merge ((List.reverse_perm ks).nodup_iff.mpr ndk)]
    have q2 := Same.new (o := .dK (kvD ks.reverse val)) ndd
    have sF : Same HE (upd (upd HL pr (.lst (tsL.map V.ref).reverse)) dd (.dK (kvD ks.reverse val))) := (Same.trans (show Same HE HL from keepL) q1).trans q2
    have hdd : (upd (upd HL pr (.lst (tsL.map V.ref).reverse)) dd (.dK (kvD ks.reverse val))) dd = some (.dK (kvD ks.reverse val)) := upd_same
    generalize upd (upd HL pr (.lst (tsL.map V.ref).reverse)) dd (.dK (kvD ks.reverse val)) = HF at sF hdd ⊢
    have hnF := sF _ _ hnE
    have hpF := sF _ _ hpE
    have hbF := sF _ _ hbE
    have hDF := sF _ _ hD
    have stF := stE.same sF
    have PF := PE.same sF
    have SF := SE.same sF
    have kEF : Kp g HE HF := Kp.refl.then sF
    have nddE : HE dd = none := by
      cases e : HE dd with
      | none => rfl
      | some o => rw [q1 _ _ (keepL _ _ e)] at ndd; cases ndd
    clear keepL nL nts npl hL prL q1 q2 npr ndd sF hpE
    have inr : ∀ z ∈ ks.reverse, z ∈ readsOf es := fun z hz => readsE z (ink z (List.mem_reverse.mp hz))
    have vals := kvD_val (ks := ks) offk
    have valsR := kvD_val (ks := ks.reverse) (val := val) fun z hz => offk z fun m => hz (List.mem_reverse.mpr m)
    have numA : ∀ {H : Hp}, H dd = some (.dK (kvD ks.reverse val)) → NumA H (.ref dd) (readsOf es) val := fun h => .inr ⟨dd, _, ks.reverse, rfl, h, by unfold kvD; rw [List.map_map]; rfl, inr, by rw [List.length_reverse]; exact lk, valsR⟩
    -- the hurt places
    refine ⟨(by show 0 ≤ sizeLine; decide), fun e0 ne0 => ?_⟩
    have q3 := Same.new (o := .lst []) ne0
    have he0 : (upd HF e0 (.lst [])) e0 = some (.lst (([] : List Str).map V.str)) := upd_same
    have SF' := SF.same q3
    refine ⟨_, rfl, _, rfl, g, pl, zs, 930000000, rfl, strs_ne SF hpF, .of (q3 _ _ hpF), by omega, SF'.mono (by omega), fun sb ys HG sub nsb hsb kG SG => ?_⟩
    have kF : Kp g HF HG := Kp.trans (Kp.refl.then q3) kG
    have he1 := kG _ _ (strs_ne SF' he0) he0
    have hnG := kF _ _ (strs_ne SF hnF) hnF
    have hpG := kF _ _ (strs_ne SF hpF) hpF
    have hbG := kF _ _ (refs_ne SF hbF) hbF
    have stG := stF.sameN (kF.noL SF)
    have PG := PF.sameN (kF.noL SF)
    have notg : ∀ {x : Addr} {kvs : List (Key × V)}, HF x = some (.dK kvs) → x ≠ g := fun h e => by
      obtain ⟨_, _, _, e', _⟩ := SF
      rw [e, e'] at h; cases h
    have hDG := kF _ _ (notg hDF) hDF
    have hdG := kF _ _ (notg hdd) hdd
    have kEG := Kp.trans kEF kF
    clear notg kEF he0 q3 ne0 hnF hpF hbF hDF hdd stF PF SF kG kF
    refine ⟨_, rfl, pl, _, rfl, .inl ⟨.of hpG, fun tp ntp => ⟨(by show 3 ≤ sizeLine; decide), fun t3 nt3 => ?_⟩⟩⟩
    have q4 := Same.new (o := .tup (zs.map V.str)) ntp
    have q5 := Same.new (o := .tup [.ref e0, .ref sb, .ref tp]) nt3
    have htp := q5 _ _ (upd_same (H := HG) (a := tp) (o := .tup (zs.map V.str)))
    have ht3 : (upd (upd HG tp (.tup (zs.map V.str))) t3 (.tup [.ref e0, .ref sb, .ref tp])) t3 = some (.tup [.ref e0, .ref sb, .ref tp]) := upd_same
    have sI := q4.trans q5
    generalize upd (upd HG tp (.tup (zs.map V.str))) t3 (.tup [.ref e0, .ref sb, .ref tp]) = HI at htp ht3 sI ⊢
    have hurt : ∀ v ∈ [V.ref e0, .ref sb, .ref tp], HurtA K HI (readsOf es) v := fun v hv => by
      simp only [List.mem_cons, List.not_mem_nil, or_false] at hv
      rcases hv with rfl | rfl | rfl
      · exact ⟨e0, [], rfl, .inl (sI _ _ he1), by decide, by simp⟩
      · exact ⟨sb, ys, rfl, .inl (sI _ _ hsb), by have := sub.length_le; omega, fun z hz => readsE z (sub.subset hz)⟩
      · exact ⟨tp, zs, rfl, .inr htp, by omega, readsE⟩
    have hnI := sI _ _ hnG
    have hbI := sI _ _ hbG
    have hDI := sI _ _ hDG
    have hdI := sI _ _ hdG
    have stI := stG.same sI
    have PI := PG.same sI
    have kEI := kEG.then sI
    clear kEG q4 q5 htp sI he1 hsb hnG hpG hbG hDG hdG stG PG SG ntp nt3
    refine ⟨t3, rfl, ⟨_, .of ht3⟩, ?_⟩
    refine for_it walk_tup (fun _ σ H' => ∃ v7 : Option V, σ = [some (.ref a), some (.ref g), some (.ref b), some (.ref prl'), some (.ref p), some (.ref D), some (.ref dd), v7, none, some (.ref nl), some (.ref pl), none] ∧ Same HI H') ⟨none, rfl, fun _ _ h => h⟩ (fun i σ H' _ q => .of (q.choose_spec.2 _ _ ht3)) ?_ ?_
    · rintro i x σ _ H0 hi ⟨v7, rfl, s0⟩ ⟨rfl, hx⟩
      obtain ⟨hv, br, rfl, hhv, lbr, ibr⟩ := (hurt x (List.mem_of_getElem? hx)).same s0
      have hq : SqL K H0 hv (br.map V.str) ∨ SqT K H0 hv (br.map V.str) := hhv.elim (fun q => .inl (.of q)) fun q => .inr (.of q)
      have hA : ArgS K C H0 (.ref hv) br := hhv.elim (fun q => .lst q) fun q => .tup q
      refine ⟨_, rfl, _, rfl, nl, _, _, _, rfl, rfl, .of (s0 _ _ hnI), ix0, _, rfl, _, rfl, p, es, r.name, .ref dd, .ref hv, val, br, rfl, PI.same s0, inn, numA (s0 _ _ hdI), hA, lbr, ibr, fun t1 H1 s1 dp1 => ?_⟩
      rw [out_due Re hrE fl] at dp1
      have s01 := s0.trans s1
      refine ⟨_, rfl, nl, _, _, _, rfl, rfl, .of (s01 _ _ hnI), ix0, _, rfl, _, rfl, _, rfl, r.name, b, D, hv, ts, r.ss, _, val, br, rfl, s01 _ _ hbI, stI.same s01, fl, nmS, ls, s01 _ _ hDI, vals, hq.elim (fun q => .inl (SameL s1 q)) (fun q => .inr (s1.tup q)), fun t2 H2 s2 du => ?_⟩
      have sh1 := (sh_due (val := val) (br := br) i0 nmS).sh
      refine ⟨_, _, dp_same s2 dp1, du.dp, sh1, sh1, _, rfl, ?_⟩
      rw [eqv_due]
      refine iteF ?_
      have s02 := s01.trans s2
      have s12 := s1.trans s2
      -- no numbers
      have numN : ∀ {H : Hp}, NumA H .non (readsOf es) (fun _ => 0) := .inl ⟨rfl, fun _ => rfl⟩
      refine ⟨_, rfl, _, rfl, nl, _, _, _, rfl, rfl, .of (s02 _ _ hnI), ix0, _, rfl, p, es, r.name, .non, .ref hv, fun _ => 0, br, rfl, PI.same s02, inn, numN, hA.same s12, lbr, ibr, fun t3 H3 s3 dp3 => ?_⟩
      rw [out_due Re hrE fl] at dp3
      have s03 := s02.trans s3
      refine ⟨_, rfl, nl, _, _, _, rfl, rfl, .of (s03 _ _ hnI), ix0, _, rfl, fun dn ndn => ?_⟩
      have q6 := Same.new (o := .dK []) ndn
      have s04 := s03.trans q6
      have s14 := (s12.trans s3).trans q6
      refine ⟨_, rfl, r.name, b, dn, hv, ts, r.ss, [], fun _ => 0, br, rfl, s04 _ _ hbI, stI.same s04, fl, nmS, ls, upd_same, (fun _ => .inr ⟨rfl, rfl⟩), hq.elim (fun q => .inl (SameL s14 q)) (fun q => .inr (s14.tup q)), fun t4 H4 s4 du4 => ?_⟩
      have sh2 := (sh_due (val := fun _ => 0) (br := br) i0 nmS).sh
      refine ⟨_, _, dp_same (q6.trans s4) dp3, du4.dp, sh2, sh2, _, rfl, ?_⟩
      rw [eqv_due]
      exact iteF ⟨_, rfl, s04.trans s4⟩
    rintro σ H0 ⟨v7, rfl, s0⟩
    have hn0 := s0 _ _ hnI
    have hb0 := s0 _ _ hbI
    have hD0 := s0 _ _ hDI
    have hd0 := s0 _ _ hdI
    have st0 := stI.same s0
    have P0 := PI.same s0
    have kE0 := kEI.then s0
    clear kEI hurt hnI hbI hDI hdI stI PI s0 ht3
    -- the dict stays
    refine ⟨_, rfl, dd, _, rfl, hd0, fun HA pA tsA keepA nA ntA npA hA prA => ⟨_, rfl, D, _, rfl, keepA _ _ hD0, fun HB pB tsB keepB nB ntB npB hB prB => ⟨pB, _, rfl, .of hB, fun pr npr => ?_⟩⟩⟩
    have q1 : Same HB (upd HB pr (.lst (tsB.map V.ref).reverse)) := Same.new npr
    have dA : Dp K (upd HB pr (.lst (tsB.map V.ref).reverse)) (.ref pA) (itsD ks.reverse val) := dp_same (Same.trans (show Same HA HB from keepB) q1) (.lst (.of hA) (dp_its prA))
    have dB : Dp K (upd HB pr (.lst (tsB.map V.ref).reverse)) (.ref pr) (itsD ks.reverse val) := by
      refine .lst (xs := tsB.reverse.map V.ref) (.of (by rw [upd_same, List.map_reverse])) (dp_its ?_)
      rw [← kvD_rev]
      exact paired_rev (paired_same prB fun _ _ z => q1 _ _ z)
    have shI : SeqAt.shaped (itsD ks.reverse val) = true := sh_its fun z hz => (nz z (ink z (List.mem_reverse.mp hz))).1
    refine ⟨_, _, dA, dB, shI, shI, _, rfl, ?_⟩
    rw [eqv_its]
    refine iteF ?_
    have sC : Same H0 (upd HB pr (.lst (tsB.map V.ref).reverse)) := (Same.trans (show Same H0 HA from keepA) (show Same HA HB from keepB)).trans q1
    generalize upd HB pr (.lst (tsB.map V.ref).reverse) = HC at sC ⊢
    have hnC := sC _ _ hn0
    have hbC := sC _ _ hb0
    have hDC := sC _ _ hD0
    have hdC := sC _ _ hd0
    have stC := st0.same sC
    have PC := P0.same sC
    have kEC := kE0.then sC
    clear kE0 keepA nA ntA npA hA prA keepB nB ntB npB hB prB npr q1 dA dB shI sC hn0 hb0 hD0 hd0 st0 P0
    -- what was told stays
    have fail0 : failN (pls es) r.name [] [] = none := by
      rw [fail_flat Re hrE fl]
      have : firstRead [] r.ss = none := by unfold firstRead; simp
      rw [this]; rfl
    have fr0 : firstRead [] r.ss = none := by unfold firstRead; simp
    have one : ∀ (vl : Str → Int), (canonN (plainR es vl [] []) (stP es [] r.name)) = [r.ss.map (itF vl)] := fun vl => canon_now Re hrE fl
    refine ⟨_, rfl, _, rfl, nl, _, _, _, rfl, rfl, .of hnC, ix0, _, rfl, rfl, rfl, p, es, r.name, .ref dd, .ref aB, .ref aS, val, [], [], rfl, PC, inn, numA hdC, .emp lB cB qB, by decide, by simp, .emp lS cS qS, by decide, by simp, fun pa d e => by (rw [fail0] at e; cases e), fun _ rr dxr dr us1 HG A1 nrr ndr nus s1 => ?_⟩
    rw [one] at A1
    have hdG := s1 _ _ hdC
    refine ⟨_, rfl, .inr (.inr (.inl ⟨rfl, .inl ⟨_, hdG⟩⟩)), dd, _, rfl, rfl, hdG, ?_⟩
    have kK : Kp g HE (upd HG dd (.dK [])) := fun x o n e => by
      rw [upd_ne (fun z => by rw [z, nddE] at e; cases e)]
      exact s1 _ _ (kEC _ _ n e)
    have A2 := A1.dk (o := .dK []) hdG
    generalize upd HG dd (.dK []) = HK at kK A2 ⊢
    have notg : ∀ {x : Addr} {kvs : List (Key × V)}, HE x = some (.dK kvs) → x ≠ g := fun h e => by
      obtain ⟨_, _, _, e', _⟩ := SE
      rw [e, e'] at h; cases h
    have hnK := kK _ _ (strs_ne SE hnE) hnE
    have hbK := kK _ _ (refs_ne SE hbE) hbE
    have hDK := kK _ _ (notg hD) hD
    have stK := stE.sameN (kK.noL SE)
    have PK := PE.sameN (kK.noL SE)
    clear kEC kK notg hnE hbE hD stE PE SE hnC hbC hDC hdC stC PC hdG A1 s1 nddE
    -- the rows that were told
    refine ⟨_, rfl, rr, dxr, _, rfl, A2.o, flR_no (by decide), rr, dxr, dr, us1, _, rfl, A2, (by show 1 ≤ 4000; decide), fun D2 ws HM nD2 LD fD s2 => ⟨(by show 2 ≤ sizeLine; decide), fun t5 nt5 => ⟨(by show 1 ≤ sizeLine; decide), fun l1 nl1 => ?_⟩⟩⟩
    have q5 := Same.new (o := .tup [.str "rows", .ref D2]) nt5
    have q6 := Same.new (o := .lst [.ref t5]) nl1
    have d1 : Dp K (upd (upd HM t5 (.tup [.str "rows", .ref D2])) l1 (.lst [.ref t5])) (.ref l1) (.list [.tuple [.str "rows", rsD [r.ss.map (itF val)]]]) := .lst (xs := [V.ref t5]) (.of upd_same) (.cons (.tup (q6.tup (.of upd_same)) (.cons (.str _) (.cons (dp_rs ((LD.same q5).same q6)) .nil))) .nil)
    have sN := (s2.trans q5).trans q6
    generalize upd (upd HM t5 (.tup [.str "rows", .ref D2])) l1 (.lst [.ref t5]) = HN at d1 sN ⊢
    refine ⟨_, rfl, nl, _, _, _, rfl, rfl, .of (sN _ _ hnK), ix0, _, rfl, _, rfl, (by show 0 ≤ sizeLine; decide), fun e1 ne1 => ?_⟩
    have q7 := Same.new (o := .lst []) ne1
    have sO := sN.trans q7
    refine ⟨r.name, b, D, e1, ts, r.ss, _, val, [], rfl, sO _ _ hbK, stK.same sO, fl, nmS, ls, sO _ _ hDK, vals, .inl (.of upd_same), fun t2 HP sP du => ⟨(by show 1 ≤ sizeLine; decide), fun l2 nl2 => ?_⟩⟩
    have q8 := Same.new (o := .lst [.ref t2]) nl2
    have eD : ∀ vl : Str → Int, dueD r.name r.ss vl [] = .tuple [.str "rows", rsD [r.ss.map (itF vl)]] := fun vl => by unfold dueD; rw [fr0]
    have d2 : Dp K (upd HP l2 (.lst [.ref t2])) (.ref l2) (.list [.tuple [.str "rows", rsD [r.ss.map (itF val)]]]) := by
      have := du.dp
      rw [eD] at this
      exact .lst (xs := [V.ref t2]) (.of upd_same) (.cons (dp_same q8 this) .nil)
    have sh1 : ∀ vl : Str → Int, Sh 4 (.tuple [.str "rows", rsD [r.ss.map (itF vl)]]) := fun vl => by
      have := sh_due (val := vl) (br := []) i0 nmS
      rwa [eD] at this
    have ev1 : ∀ vl : Str → Int, PyData.eqv (.tuple [.str "rows", rsD [r.ss.map (itF vl)]]) (.tuple [.str "rows", rsD [r.ss.map (itF vl)]]) = true := fun vl => by
      have := eqv_due r.name r.ss vl []
      rwa [eD] at this
    have sh5 : SeqAt.shaped (.list [.tuple [.str "rows", rsD [r.ss.map (itF val)]]]) = true := (Sh.list (k := 4) fun d hd => by rw [List.mem_singleton.mp hd]; exact sh1 val).sh
    refine ⟨_, _, dp_same ((q7.trans sP).trans q8) d1, d2, sh5, sh5, _, rfl, ?_⟩
    show if (!(PyData.eqv (.tuple [.str "rows", rsD [r.ss.map (itF val)]]) (.tuple [.str "rows", rsD [r.ss.map (itF val)]]) && true)) = true then _ else _
    rw [ev1]
    refine iteF ?_
    have sQ := (sO.trans sP).trans q8
    -- without numbers
    refine ⟨_, rfl, _, rfl, nl, _, _, _, rfl, rfl, .of (sQ _ _ hnK), ix0, p, es, r.name, .non, .ref aB, .ref aS, fun _ => 0, [], [], rfl, PK.same sQ, inn, .inl ⟨rfl, fun _ => rfl⟩, .emp lB cB qB, by decide, by simp, .emp lS cS qS, by decide, by simp, fun pa d e => by (rw [fail0] at e; cases e), fun _ r2 dx2 d2 us2 HR A3 nr2 nd2 nus2 sR => ?_⟩
    rw [one] at A3
    have sS := sQ.trans sR
    refine ⟨r2, dx2, _, rfl, A3.o, flR_no (by decide), r2, dx2, d2, us2, _, rfl, A3, (by show 1 ≤ 4000; decide), fun D3 ws3 HS nD3 LD3 fD3 s3 => ?_⟩
    have sT := sS.trans s3
    refine ⟨_, rfl, nl, _, _, _, rfl, rfl, .of (sT _ _ hnK), ix0, _, rfl, fun dn ndn => ⟨(by show 0 ≤ sizeLine; decide), fun e2 ne2 => ?_⟩⟩
    have q9 := Same.new (o := .dK []) ndn
    have q10 := Same.new (o := .lst []) ne2
    have sU := (sT.trans q9).trans q10
    refine ⟨r.name, b, dn, e2, ts, r.ss, [], fun _ => 0, [], rfl, sU _ _ hbK, stK.same sU, fl, nmS, ls, q10 _ _ upd_same, (fun _ => .inr ⟨rfl, rfl⟩), .inl (.of upd_same), fun t6 HV sV du6 => ?_⟩
    unfold DueA at du6
    rw [fr0] at du6
    obtain ⟨D6, us6, ht6, L6⟩ := du6
    have shR : SeqAt.shaped (rsD [r.ss.map (itF fun _ => 0)]) = true := (sh_rs (wd_flat (val := fun _ => 0) fun s hs => .inl (nmS s hs))).sh
    refine ⟨t6, _, ((1 : Nat) : Int), .ref D6, rfl, rfl, .of ht6, atI_nat rfl, _, _, dp_rs (LD3.same ((q9.trans q10).trans sV)), dp_rs L6, shR, shR, ?_⟩
    rw [eqv_rs, decide_eq_true rfl]
    exact k _
end
end Mf
namespace Mf
open PySem L2
theorem MetF.calC {P : Program} {w : World} {K : PySem.W.Frag} {mg : Str → Option Value} {base : Heap} {CX : CXT} {k : Nat} {x qual : Str} {st : Stmt} {f C : Addr} {ps : List Str} {sp : Sp} (D : MetF K C "__init__" qual st f) (mk : PySem.W.makesIn K C = true) (kc : PySem.W.keepIn K (.ref C) = true) (m : mg x = some (.ref C)) (hb : BindP "__init__" qual st ps)
    (ok : ∀ fd, Fun K "__init__" qual st f fd → FnOk P w K mg base CX k f fd ps sp) : CalC P w K mg base CX k x C ps sp [] := by
  obtain ⟨oc, od, sl, kV, dc, pm, an, cd, ct, a, l, c, q, i, n⟩ := D.ex
  have F := fun_mk (st := st) l c q
  exact ⟨⟨f, _, [], ⟨mk, a, i, kc⟩, ok _ F, m, F.binds hb, .nil⟩⟩
set_option maxHeartbeats 4000000 in
theorem all_mk {l : PySem.W.OpenLaw} {w : World} {K : PySem.W.Frag} {h : Heap} {mg : Str → Option Value} {fa : Addr} (X : K.In h) (G : h.Ns mainGlobals mg) (hfa : mg "law" = some (.ref fa))
    {Cn Cp Cr CF Me fICn tDCn t0Cn fCneq fCnle fCnor fCncontains fICp fCpeq fCpgetitem fCpcontains fCplen fICr fCrrows fCrfrom_row pCrfrom_row fICF fDIs_name fDIs_step fDIs_body fDChecked_bodies fDCheck_callees fDPlaces fDIs_integer fDIs_number fDIs_item fDIs_row fDCheck_rows fDNode_indexes fDPointing_row fDFiner_classes fDClasses fDNumbered_rows fDCheck_procedure fDChecked_procedures fDCheck_place fDChecked_places fDChecked_numbers fDRequiring_paths fDFailure fDPresent_nodes fDItem fDRows_of_all fDSource fDDraw fDName fDNames fDCopy fDSubset fDNumber fDNumbers fDBody_drawn fDPlain_try fDDue fDLaw fEPaths_from tDEPaths_from t0EPaths_from fPPlain_result kDPPlain_result t0PPlain_result1 t0PPlain_result2 xKINDS xCALLING_KINDS xREQUIRING_KINDS xGAP : Addr}
    {ocCn : Value} {odCn : Option Addr} {slCn : Array (Option Value)} {kVCn dcCn pmCn : Value} {anCn : Option Addr} {cdCn cuCn : Value} {o1Cn o2Cn : Obj} {itsCn : List Value} {n1Cn n2Cn : Nat}
    {ocCneq : Value} {odCneq : Option Addr} {slCneq : Array (Option Value)} {kVCneq dcCneq pmCneq : Value} {anCneq : Option Addr} {cdCneq ctCneq : Value}
    {ocCnle : Value} {odCnle : Option Addr} {slCnle : Array (Option Value)} {kVCnle dcCnle pmCnle : Value} {anCnle : Option Addr} {cdCnle ctCnle : Value}
    {ocCnor : Value} {odCnor : Option Addr} {slCnor : Array (Option Value)} {kVCnor dcCnor pmCnor : Value} {anCnor : Option Addr} {cdCnor ctCnor : Value}
    {ocCncontains : Value} {odCncontains : Option Addr} {slCncontains : Array (Option Value)} {kVCncontains dcCncontains pmCncontains : Value} {anCncontains : Option Addr} {cdCncontains ctCncontains : Value}
    {ocICp : Value} {odICp : Option Addr} {slICp : Array (Option Value)} {kVICp dcICp pmICp : Value} {anICp : Option Addr} {cdICp ctICp : Value}
    {ocCpeq : Value} {odCpeq : Option Addr} {slCpeq : Array (Option Value)} {kVCpeq dcCpeq pmCpeq : Value} {anCpeq : Option Addr} {cdCpeq ctCpeq : Value}
    {ocCpgetitem : Value} {odCpgetitem : Option Addr} {slCpgetitem : Array (Option Value)} {kVCpgetitem dcCpgetitem pmCpgetitem : Value} {anCpgetitem : Option Addr} {cdCpgetitem ctCpgetitem : Value}
    {ocCpcontains : Value} {odCpcontains : Option Addr} {slCpcontains : Array (Option Value)} {kVCpcontains dcCpcontains pmCpcontains : Value} {anCpcontains : Option Addr} {cdCpcontains ctCpcontains : Value}
    {ocCplen : Value} {odCplen : Option Addr} {slCplen : Array (Option Value)} {kVCplen dcCplen pmCplen : Value} {anCplen : Option Addr} {cdCplen ctCplen : Value}
    {ocICr : Value} {odICr : Option Addr} {slICr : Array (Option Value)} {kVICr dcICr pmICr : Value} {anICr : Option Addr} {cdICr ctICr : Value}
    {ocCrrows : Value} {odCrrows : Option Addr} {slCrrows : Array (Option Value)} {kVCrrows dcCrrows pmCrrows : Value} {anCrrows : Option Addr} {cdCrrows ctCrrows : Value}
    {ocCrfrom_row : Value} {odCrfrom_row : Option Addr} {slCrfrom_row : Array (Option Value)} {kVCrfrom_row dcCrfrom_row pmCrfrom_row : Value} {anCrfrom_row : Option Addr} {cdCrfrom_row ctCrfrom_row : Value} {restCrfrom_row : List Value}
    {qCF : Str} {NCF : Addr} {bsCF : List Value} {snCF : List Str} {subCF : List Value} {abCF : Bool} {colCF : Option Bool} {ddCF : Option Addr} {uuCF vvCF wwCF xxCF yyCF : Option Value}
    {ocICF : Value} {odICF : Option Addr} {slICF : Array (Option Value)} {kVICF dcICF pmICF : Value} {anICF : Option Addr} {cdICF ctICF : Value}
    {ocDIs_name : Value} {odDIs_name : Option Addr} {slDIs_name : Array (Option Value)} {kVDIs_name dcDIs_name pmDIs_name : Value} {anDIs_name : Option Addr} {cdDIs_name ctDIs_name : Value}
    {ocDIs_step : Value} {odDIs_step : Option Addr} {slDIs_step : Array (Option Value)} {kVDIs_step dcDIs_step pmDIs_step : Value} {anDIs_step : Option Addr} {cdDIs_step ctDIs_step : Value}
    {ocDIs_body : Value} {odDIs_body : Option Addr} {slDIs_body : Array (Option Value)} {kVDIs_body dcDIs_body pmDIs_body : Value} {anDIs_body : Option Addr} {cdDIs_body ctDIs_body : Value}
    {ocDChecked_bodies : Value} {odDChecked_bodies : Option Addr} {slDChecked_bodies : Array (Option Value)} {kVDChecked_bodies dcDChecked_bodies pmDChecked_bodies : Value} {anDChecked_bodies : Option Addr} {cdDChecked_bodies ctDChecked_bodies : Value}
    {ocDCheck_callees : Value} {odDCheck_callees : Option Addr} {slDCheck_callees : Array (Option Value)} {kVDCheck_callees dcDCheck_callees pmDCheck_callees : Value} {anDCheck_callees : Option Addr} {cdDCheck_callees ctDCheck_callees : Value}
    {ocDPlaces : Value} {odDPlaces : Option Addr} {slDPlaces : Array (Option Value)} {kVDPlaces dcDPlaces pmDPlaces : Value} {anDPlaces : Option Addr} {cdDPlaces ctDPlaces : Value}
    {ocDIs_integer : Value} {odDIs_integer : Option Addr} {slDIs_integer : Array (Option Value)} {kVDIs_integer dcDIs_integer pmDIs_integer : Value} {anDIs_integer : Option Addr} {cdDIs_integer ctDIs_integer : Value}
    {ocDIs_number : Value} {odDIs_number : Option Addr} {slDIs_number : Array (Option Value)} {kVDIs_number dcDIs_number pmDIs_number : Value} {anDIs_number : Option Addr} {cdDIs_number ctDIs_number : Value}
    {ocDIs_item : Value} {odDIs_item : Option Addr} {slDIs_item : Array (Option Value)} {kVDIs_item dcDIs_item pmDIs_item : Value} {anDIs_item : Option Addr} {cdDIs_item ctDIs_item : Value}
    {ocDIs_row : Value} {odDIs_row : Option Addr} {slDIs_row : Array (Option Value)} {kVDIs_row dcDIs_row pmDIs_row : Value} {anDIs_row : Option Addr} {cdDIs_row ctDIs_row : Value}
    {ocDCheck_rows : Value} {odDCheck_rows : Option Addr} {slDCheck_rows : Array (Option Value)} {kVDCheck_rows dcDCheck_rows pmDCheck_rows : Value} {anDCheck_rows : Option Addr} {cdDCheck_rows ctDCheck_rows : Value}
    {ocDNode_indexes : Value} {odDNode_indexes : Option Addr} {slDNode_indexes : Array (Option Value)} {kVDNode_indexes dcDNode_indexes pmDNode_indexes : Value} {anDNode_indexes : Option Addr} {cdDNode_indexes ctDNode_indexes : Value}
    {ocDPointing_row : Value} {odDPointing_row : Option Addr} {slDPointing_row : Array (Option Value)} {kVDPointing_row dcDPointing_row pmDPointing_row : Value} {anDPointing_row : Option Addr} {cdDPointing_row ctDPointing_row : Value}
    {ocDFiner_classes : Value} {odDFiner_classes : Option Addr} {slDFiner_classes : Array (Option Value)} {kVDFiner_classes dcDFiner_classes pmDFiner_classes : Value} {anDFiner_classes : Option Addr} {cdDFiner_classes ctDFiner_classes : Value}
    {ocDClasses : Value} {odDClasses : Option Addr} {slDClasses : Array (Option Value)} {kVDClasses dcDClasses pmDClasses : Value} {anDClasses : Option Addr} {cdDClasses ctDClasses : Value}
    {ocDNumbered_rows : Value} {odDNumbered_rows : Option Addr} {slDNumbered_rows : Array (Option Value)} {kVDNumbered_rows dcDNumbered_rows pmDNumbered_rows : Value} {anDNumbered_rows : Option Addr} {cdDNumbered_rows ctDNumbered_rows : Value}
    {ocDCheck_procedure : Value} {odDCheck_procedure : Option Addr} {slDCheck_procedure : Array (Option Value)} {kVDCheck_procedure dcDCheck_procedure pmDCheck_procedure : Value} {anDCheck_procedure : Option Addr} {cdDCheck_procedure ctDCheck_procedure : Value}
    {ocDChecked_procedures : Value} {odDChecked_procedures : Option Addr} {slDChecked_procedures : Array (Option Value)} {kVDChecked_procedures dcDChecked_procedures pmDChecked_procedures : Value} {anDChecked_procedures : Option Addr} {cdDChecked_procedures ctDChecked_procedures : Value}
    {ocDCheck_place : Value} {odDCheck_place : Option Addr} {slDCheck_place : Array (Option Value)} {kVDCheck_place dcDCheck_place pmDCheck_place : Value} {anDCheck_place : Option Addr} {cdDCheck_place ctDCheck_place : Value}
    {ocDChecked_places : Value} {odDChecked_places : Option Addr} {slDChecked_places : Array (Option Value)} {kVDChecked_places dcDChecked_places pmDChecked_places : Value} {anDChecked_places : Option Addr} {cdDChecked_places ctDChecked_places : Value}
    {ocDChecked_numbers : Value} {odDChecked_numbers : Option Addr} {slDChecked_numbers : Array (Option Value)} {kVDChecked_numbers dcDChecked_numbers pmDChecked_numbers : Value} {anDChecked_numbers : Option Addr} {cdDChecked_numbers ctDChecked_numbers : Value}
    {ocDRequiring_paths : Value} {odDRequiring_paths : Option Addr} {slDRequiring_paths : Array (Option Value)} {kVDRequiring_paths dcDRequiring_paths pmDRequiring_paths : Value} {anDRequiring_paths : Option Addr} {cdDRequiring_paths ctDRequiring_paths : Value}
    {ocDFailure : Value} {odDFailure : Option Addr} {slDFailure : Array (Option Value)} {kVDFailure dcDFailure pmDFailure : Value} {anDFailure : Option Addr} {cdDFailure ctDFailure : Value}
    {ocDPresent_nodes : Value} {odDPresent_nodes : Option Addr} {slDPresent_nodes : Array (Option Value)} {kVDPresent_nodes dcDPresent_nodes pmDPresent_nodes : Value} {anDPresent_nodes : Option Addr} {cdDPresent_nodes ctDPresent_nodes : Value}
    {ocDItem : Value} {odDItem : Option Addr} {slDItem : Array (Option Value)} {kVDItem dcDItem pmDItem : Value} {anDItem : Option Addr} {cdDItem ctDItem : Value}
    {ocDRows_of_all : Value} {odDRows_of_all : Option Addr} {slDRows_of_all : Array (Option Value)} {kVDRows_of_all dcDRows_of_all pmDRows_of_all : Value} {anDRows_of_all : Option Addr} {cdDRows_of_all ctDRows_of_all : Value}
    {ocDSource : Value} {odDSource : Option Addr} {slDSource : Array (Option Value)} {kVDSource dcDSource pmDSource : Value} {anDSource : Option Addr} {cdDSource ctDSource : Value}
    {ocDDraw : Value} {odDDraw : Option Addr} {slDDraw : Array (Option Value)} {kVDDraw dcDDraw pmDDraw : Value} {anDDraw : Option Addr} {cdDDraw ctDDraw : Value}
    {ocDName : Value} {odDName : Option Addr} {slDName : Array (Option Value)} {kVDName dcDName pmDName : Value} {anDName : Option Addr} {cdDName ctDName : Value}
    {ocDNames : Value} {odDNames : Option Addr} {slDNames : Array (Option Value)} {kVDNames dcDNames pmDNames : Value} {anDNames : Option Addr} {cdDNames ctDNames : Value}
    {ocDCopy : Value} {odDCopy : Option Addr} {slDCopy : Array (Option Value)} {kVDCopy dcDCopy pmDCopy : Value} {anDCopy : Option Addr} {cdDCopy ctDCopy : Value}
    {ocDSubset : Value} {odDSubset : Option Addr} {slDSubset : Array (Option Value)} {kVDSubset dcDSubset pmDSubset : Value} {anDSubset : Option Addr} {cdDSubset ctDSubset : Value}
    {ocDNumber : Value} {odDNumber : Option Addr} {slDNumber : Array (Option Value)} {kVDNumber dcDNumber pmDNumber : Value} {anDNumber : Option Addr} {cdDNumber ctDNumber : Value}
    {ocDNumbers : Value} {odDNumbers : Option Addr} {slDNumbers : Array (Option Value)} {kVDNumbers dcDNumbers pmDNumbers : Value} {anDNumbers : Option Addr} {cdDNumbers ctDNumbers : Value}
    {ocDBody_drawn : Value} {odDBody_drawn : Option Addr} {slDBody_drawn : Array (Option Value)} {kVDBody_drawn dcDBody_drawn pmDBody_drawn : Value} {anDBody_drawn : Option Addr} {cdDBody_drawn ctDBody_drawn : Value}
    {ocDPlain_try : Value} {odDPlain_try : Option Addr} {slDPlain_try : Array (Option Value)} {kVDPlain_try dcDPlain_try pmDPlain_try : Value} {anDPlain_try : Option Addr} {cdDPlain_try ctDPlain_try : Value}
    {ocDDue : Value} {odDDue : Option Addr} {slDDue : Array (Option Value)} {kVDDue dcDDue pmDDue : Value} {anDDue : Option Addr} {cdDDue ctDDue : Value}
    {ocDLaw : Value} {odDLaw : Option Addr} {slDLaw : Array (Option Value)} {kVDLaw dcDLaw pmDLaw : Value} {anDLaw : Option Addr} {cdDLaw ctDLaw : Value}
    {ocEPaths_from : Value} {odEPaths_from : Option Addr} {slEPaths_from : Array (Option Value)} {kVEPaths_from dcEPaths_from pmEPaths_from : Value} {anEPaths_from : Option Addr} {cdEPaths_from cuEPaths_from : Value} {o1EPaths_from o2EPaths_from : Obj} {itsEPaths_from : List Value} {n1EPaths_from n2EPaths_from : Nat}
    {ocPPlain_result : Value} {odPPlain_result : Option Addr} {slPPlain_result : Array (Option Value)} {dcPPlain_result pmPPlain_result : Value} {anPPlain_result : Option Addr} {cdPPlain_result cuPPlain_result : Value}
    {o2PPlain_result1 : Obj} {n2PPlain_result1 : Nat}
    {o2PPlain_result2 : Obj} {n2PPlain_result2 : Nat}
    {tkLONGEST_NAME : Tok}
    {tkMOST_STEPS : Tok}
    {tkMOST_PROCEDURES : Tok}
    {tkMOST_ROWS : Tok}
    {tkMOST_ITEMS : Tok}
    {oKINDS : Obj} {itsKINDS : List Value} {nKINDS : Nat} {uKINDS0 uKINDS1 uKINDS2 uKINDS3 : Tok}
    {oCALLING_KINDS : Obj} {itsCALLING_KINDS : List Value} {nCALLING_KINDS : Nat} {uCALLING_KINDS0 uCALLING_KINDS1 : Tok}
    {oREQUIRING_KINDS : Obj} {itsREQUIRING_KINDS : List Value} {nREQUIRING_KINDS : Nat} {uREQUIRING_KINDS0 : Tok}
    {oGAP : Obj} {itsGAP : List Value} {nGAP : Nat} {uGAP0 : Tok}
    (aCCn : PySem.W.nsIn K mainGlobals "NameSet" = some (some (.ref Cn)))
    (pgCn : PySem.W.plainGet K Cn Str.empty = true) (hdCn : PySem.W.hasDictIn K Cn = true) (poCn : PySem.W.plainOver K Cn = true) (saCn : PySem.W.findIn K (.ref Cn) "__setattr__" = some (some (.builtin "object.__setattr__"))) (mkCn : PySem.W.makesIn K Cn = true) (kcCn : PySem.W.keepIn K (.ref Cn) = true)
    (haCn : PySem.W.findIn K (.ref Cn) "__class__" = some (some (.builtin "object.__class__"))) (hmCn : PySem.W.mroIn K Cn (.type "object") = some true) (ciCn : PySem.W.isClsIn K Cn = true) (ctCn : PySem.W.typeIn K (.ref Cn) = some (.type "type")) (kLCn : PySem.W.subIn K (.type "list") (.ref Cn) = some false) (kTCn : PySem.W.subIn K (.type "tuple") (.ref Cn) = some false)
    (neCn : PySem.W.findIn K (.ref Cn) "__ne__" = some (some (.builtin "object.__ne__"))) (sfCn : PySem.W.selfFirst K Cn = true)
    (nCnmembers : PySem.W.findIn K (.ref Cn) "members" = some none)
    (iaCn : PySem.W.findIn K (.ref Cn) "__init__" = some (some (.ref fICn))) (iiCn : PySem.W.isFn K (.ref fICn) = true) (ilCn : K.lookup fICn = some ⟨ocCn, odCn, .func (PySem.W.fnOf "__init__" "NameSet.__init__" (defArgs sNameSetInit) (defBody sNameSetInit) (defScope sNameSetInit) (.ref tDCn) kVCn dcCn pmCn anCn cdCn cuCn), slCn⟩) (icCn : PySem.W.codeIn K cdCn "NameSet.__init__" = true) (ikCn : PySem.W.keepIn K (.ref fICn) = true)
    (t1Cn : K.lookup tDCn = some o1Cn) (t2Cn : o1Cn.data = .seq itsCn.toArray n1Cn) (t3Cn : itsCn = [.ref t0Cn]) (t4Cn : K.lookup t0Cn = some o2Cn) (t5Cn : o2Cn.data = .seq ([] : List Value).toArray n2Cn) (t6Cn : o2Cn.cls = .type "tuple")
    (aCneq : PySem.W.findIn K (.ref Cn) "__eq__" = some (some (.ref fCneq))) (lCneq : K.lookup fCneq = some ⟨ocCneq, odCneq, .func (PySem.W.fnOf "__eq__" "NameSet.__eq__" (defArgs sNameSetEq) (defBody sNameSetEq) (defScope sNameSetEq) .none kVCneq dcCneq pmCneq anCneq cdCneq ctCneq), slCneq⟩) (cCneq : PySem.W.codeIn K cdCneq "NameSet.__eq__" = true) (kCneq : PySem.W.keepIn K (.ref fCneq) = true) (iCneq : PySem.W.isFn K (.ref fCneq) = true) (nCneq : PySem.W.fnIn K fCneq = true)
    (aCnle : PySem.W.findIn K (.ref Cn) "__le__" = some (some (.ref fCnle))) (lCnle : K.lookup fCnle = some ⟨ocCnle, odCnle, .func (PySem.W.fnOf "__le__" "NameSet.__le__" (defArgs sNameSetLe) (defBody sNameSetLe) (defScope sNameSetLe) .none kVCnle dcCnle pmCnle anCnle cdCnle ctCnle), slCnle⟩) (cCnle : PySem.W.codeIn K cdCnle "NameSet.__le__" = true) (kCnle : PySem.W.keepIn K (.ref fCnle) = true) (iCnle : PySem.W.isFn K (.ref fCnle) = true) (nCnle : PySem.W.fnIn K fCnle = true)
    (aCnor : PySem.W.findIn K (.ref Cn) "__or__" = some (some (.ref fCnor))) (lCnor : K.lookup fCnor = some ⟨ocCnor, odCnor, .func (PySem.W.fnOf "__or__" "NameSet.__or__" (defArgs sNameSetOr) (defBody sNameSetOr) (defScope sNameSetOr) .none kVCnor dcCnor pmCnor anCnor cdCnor ctCnor), slCnor⟩) (cCnor : PySem.W.codeIn K cdCnor "NameSet.__or__" = true) (kCnor : PySem.W.keepIn K (.ref fCnor) = true) (iCnor : PySem.W.isFn K (.ref fCnor) = true) (nCnor : PySem.W.fnIn K fCnor = true)
    (aCncontains : PySem.W.findIn K (.ref Cn) "__contains__" = some (some (.ref fCncontains))) (lCncontains : K.lookup fCncontains = some ⟨ocCncontains, odCncontains, .func (PySem.W.fnOf "__contains__" "NameSet.__contains__" (defArgs sNameSetContains) (defBody sNameSetContains) (defScope sNameSetContains) .none kVCncontains dcCncontains pmCncontains anCncontains cdCncontains ctCncontains), slCncontains⟩) (cCncontains : PySem.W.codeIn K cdCncontains "NameSet.__contains__" = true) (kCncontains : PySem.W.keepIn K (.ref fCncontains) = true) (iCncontains : PySem.W.isFn K (.ref fCncontains) = true) (nCncontains : PySem.W.fnIn K fCncontains = true)
    (aCCp : PySem.W.nsIn K mainGlobals "Program" = some (some (.ref Cp)))
    (pgCp : PySem.W.plainGet K Cp Str.empty = true) (hdCp : PySem.W.hasDictIn K Cp = true) (poCp : PySem.W.plainOver K Cp = true) (saCp : PySem.W.findIn K (.ref Cp) "__setattr__" = some (some (.builtin "object.__setattr__"))) (mkCp : PySem.W.makesIn K Cp = true) (kcCp : PySem.W.keepIn K (.ref Cp) = true)
    (haCp : PySem.W.findIn K (.ref Cp) "__class__" = some (some (.builtin "object.__class__"))) (hmCp : PySem.W.mroIn K Cp (.type "object") = some true) (ciCp : PySem.W.isClsIn K Cp = true) (ctCp : PySem.W.typeIn K (.ref Cp) = some (.type "type")) (kLCp : PySem.W.subIn K (.type "list") (.ref Cp) = some false) (kTCp : PySem.W.subIn K (.type "tuple") (.ref Cp) = some false)
    (neCp : PySem.W.findIn K (.ref Cp) "__ne__" = some (some (.builtin "object.__ne__"))) (sfCp : PySem.W.selfFirst K Cp = true)
    (nCp_bodies : PySem.W.findIn K (.ref Cp) "_bodies" = some none)
    (nCpnames : PySem.W.findIn K (.ref Cp) "names" = some none)
    (nCpplaces : PySem.W.findIn K (.ref Cp) "places" = some none)
    (aICp : PySem.W.findIn K (.ref Cp) "__init__" = some (some (.ref fICp))) (lICp : K.lookup fICp = some ⟨ocICp, odICp, .func (PySem.W.fnOf "__init__" "Program.__init__" (defArgs sProgramInit) (defBody sProgramInit) (defScope sProgramInit) .none kVICp dcICp pmICp anICp cdICp ctICp), slICp⟩) (cICp : PySem.W.codeIn K cdICp "Program.__init__" = true) (kICp : PySem.W.keepIn K (.ref fICp) = true) (iICp : PySem.W.isFn K (.ref fICp) = true) (nICp : PySem.W.fnIn K fICp = true)
    (aCpeq : PySem.W.findIn K (.ref Cp) "__eq__" = some (some (.ref fCpeq))) (lCpeq : K.lookup fCpeq = some ⟨ocCpeq, odCpeq, .func (PySem.W.fnOf "__eq__" "Program.__eq__" (defArgs sProgramEq) (defBody sProgramEq) (defScope sProgramEq) .none kVCpeq dcCpeq pmCpeq anCpeq cdCpeq ctCpeq), slCpeq⟩) (cCpeq : PySem.W.codeIn K cdCpeq "Program.__eq__" = true) (kCpeq : PySem.W.keepIn K (.ref fCpeq) = true) (iCpeq : PySem.W.isFn K (.ref fCpeq) = true) (nCpeq : PySem.W.fnIn K fCpeq = true)
    (aCpgetitem : PySem.W.findIn K (.ref Cp) "__getitem__" = some (some (.ref fCpgetitem))) (lCpgetitem : K.lookup fCpgetitem = some ⟨ocCpgetitem, odCpgetitem, .func (PySem.W.fnOf "__getitem__" "Program.__getitem__" (defArgs sProgramGetitem) (defBody sProgramGetitem) (defScope sProgramGetitem) .none kVCpgetitem dcCpgetitem pmCpgetitem anCpgetitem cdCpgetitem ctCpgetitem), slCpgetitem⟩) (cCpgetitem : PySem.W.codeIn K cdCpgetitem "Program.__getitem__" = true) (kCpgetitem : PySem.W.keepIn K (.ref fCpgetitem) = true) (iCpgetitem : PySem.W.isFn K (.ref fCpgetitem) = true) (nCpgetitem : PySem.W.fnIn K fCpgetitem = true)
    (aCpcontains : PySem.W.findIn K (.ref Cp) "__contains__" = some (some (.ref fCpcontains))) (lCpcontains : K.lookup fCpcontains = some ⟨ocCpcontains, odCpcontains, .func (PySem.W.fnOf "__contains__" "Program.__contains__" (defArgs sProgramContains) (defBody sProgramContains) (defScope sProgramContains) .none kVCpcontains dcCpcontains pmCpcontains anCpcontains cdCpcontains ctCpcontains), slCpcontains⟩) (cCpcontains : PySem.W.codeIn K cdCpcontains "Program.__contains__" = true) (kCpcontains : PySem.W.keepIn K (.ref fCpcontains) = true) (iCpcontains : PySem.W.isFn K (.ref fCpcontains) = true) (nCpcontains : PySem.W.fnIn K fCpcontains = true)
    (aCplen : PySem.W.findIn K (.ref Cp) "__len__" = some (some (.ref fCplen))) (lCplen : K.lookup fCplen = some ⟨ocCplen, odCplen, .func (PySem.W.fnOf "__len__" "Program.__len__" (defArgs sProgramLen) (defBody sProgramLen) (defScope sProgramLen) .none kVCplen dcCplen pmCplen anCplen cdCplen ctCplen), slCplen⟩) (cCplen : PySem.W.codeIn K cdCplen "Program.__len__" = true) (kCplen : PySem.W.keepIn K (.ref fCplen) = true) (iCplen : PySem.W.isFn K (.ref fCplen) = true) (nCplen : PySem.W.fnIn K fCplen = true)
    (aCCr : PySem.W.nsIn K mainGlobals "Result" = some (some (.ref Cr)))
    (pgCr : PySem.W.plainGet K Cr Str.empty = true) (hdCr : PySem.W.hasDictIn K Cr = true) (poCr : PySem.W.plainOver K Cr = true) (saCr : PySem.W.findIn K (.ref Cr) "__setattr__" = some (some (.builtin "object.__setattr__"))) (mkCr : PySem.W.makesIn K Cr = true) (kcCr : PySem.W.keepIn K (.ref Cr) = true)
    (haCr : PySem.W.findIn K (.ref Cr) "__class__" = some (some (.builtin "object.__class__"))) (hmCr : PySem.W.mroIn K Cr (.type "object") = some true) (ciCr : PySem.W.isClsIn K Cr = true) (ctCr : PySem.W.typeIn K (.ref Cr) = some (.type "type")) (kLCr : PySem.W.subIn K (.type "list") (.ref Cr) = some false) (kTCr : PySem.W.subIn K (.type "tuple") (.ref Cr) = some false)
    (neCr : PySem.W.findIn K (.ref Cr) "__ne__" = some (some (.builtin "object.__ne__"))) (sfCr : PySem.W.selfFirst K Cr = true)
    (nCr_rows : PySem.W.findIn K (.ref Cr) "_rows" = some none)
    (aICr : PySem.W.findIn K (.ref Cr) "__init__" = some (some (.ref fICr))) (lICr : K.lookup fICr = some ⟨ocICr, odICr, .func (PySem.W.fnOf "__init__" "Result.__init__" (defArgs sResultInit) (defBody sResultInit) (defScope sResultInit) .none kVICr dcICr pmICr anICr cdICr ctICr), slICr⟩) (cICr : PySem.W.codeIn K cdICr "Result.__init__" = true) (kICr : PySem.W.keepIn K (.ref fICr) = true) (iICr : PySem.W.isFn K (.ref fICr) = true) (nICr : PySem.W.fnIn K fICr = true)
    (aCrrows : PySem.W.findIn K (.ref Cr) "rows" = some (some (.ref fCrrows))) (lCrrows : K.lookup fCrrows = some ⟨ocCrrows, odCrrows, .func (PySem.W.fnOf "rows" "Result.rows" (defArgs sResultRows) (defBody sResultRows) (defScope sResultRows) .none kVCrrows dcCrrows pmCrrows anCrrows cdCrrows ctCrrows), slCrrows⟩) (cCrrows : PySem.W.codeIn K cdCrrows "Result.rows" = true) (kCrrows : PySem.W.keepIn K (.ref fCrrows) = true) (iCrrows : PySem.W.isFn K (.ref fCrrows) = true) (nCrrows : PySem.W.fnIn K fCrrows = true)
    (rdCr : PySem.W.readsIn K Cr (.type "type") = true) (gtCr : PySem.W.specialIn K (.ref Cr) "__getattribute__" = some (some (.builtin "type.__getattribute__")))
    (cmCrfrom_row : PySem.W.findCls K (.ref Cr) (.type "type") "from_row" = some (.get (.builtin "classmethod.__get__") (.ref pCrfrom_row) .none (.ref Cr))) (rcCrfrom_row : PySem.W.recIn K pCrfrom_row "classmethod" = some (.ref fCrfrom_row :: restCrfrom_row)) (fiCrfrom_row : PySem.W.fnIn K fCrfrom_row = true) (lCrfrom_row : K.lookup fCrfrom_row = some ⟨ocCrfrom_row, odCrfrom_row, .func (PySem.W.fnOf "from_row" "Result.from_row" (defArgs sResultFrom_row) (defBody sResultFrom_row) (defScope sResultFrom_row) .none kVCrfrom_row dcCrfrom_row pmCrfrom_row anCrfrom_row cdCrfrom_row ctCrfrom_row), slCrfrom_row⟩) (cCrfrom_row : PySem.W.codeIn K cdCrfrom_row "Result.from_row" = true) (kCrfrom_row : PySem.W.keepIn K (.ref fCrfrom_row) = true)
    (aCCF : PySem.W.nsIn K mainGlobals "CallFailed" = some (some (.ref CF))) (lCCF : K.lookup CF = some (excClassObj "CallFailed" qCF CF NCF bsCF [.ref Me, .type "ValueError", .type "Exception", .type "BaseException", .type "object"] true snCF subCF abCF colCF ddCF uuCF vvCF wwCF xxCF yyCF "ValueError.__new__"))
    (saCF : PySem.W.findIn K (.ref CF) "__setattr__" = some (some (.builtin "object.__setattr__"))) (tyCF : PySem.W.typeIn K (.ref CF) = some (.type "type")) (kcCF : PySem.W.keepIn K (.ref CF) = true)
    (hgCF : PySem.W.findIn K (.ref CF) "__getattribute__" = some (some (.builtin "BaseException.__getattribute__"))) (hkCF : PySem.W.findIn K (.ref CF) "__getattr__" = some none)
    (haCF : PySem.W.findIn K (.ref CF) "__class__" = some (some (.builtin "object.__class__"))) (hdCF : PySem.W.hasDictIn K CF = true) (ciCF : PySem.W.isClsIn K CF = true)
    (nCFname : PySem.W.findIn K (.ref CF) "name" = some none)
    (nCFpath : PySem.W.findIn K (.ref CF) "path" = some none)
    (nCFplace : PySem.W.findIn K (.ref CF) "place" = some none)
    (aICF : PySem.W.findIn K (.ref CF) "__init__" = some (some (.ref fICF))) (lICF : K.lookup fICF = some ⟨ocICF, odICF, .func (PySem.W.fnOf "__init__" "CallFailed.__init__" (defArgs sCallFailedInit) (defBody sCallFailedInit) (defScope sCallFailedInit) .none kVICF dcICF pmICF anICF cdICF ctICF), slICF⟩) (cICF : PySem.W.codeIn K cdICF "CallFailed.__init__" = true) (kICF : PySem.W.keepIn K (.ref fICF) = true) (iICF : PySem.W.isFn K (.ref fICF) = true) (nICF : PySem.W.fnIn K fICF = true)
    (tICF : PySem.W.typeIn K (.ref fICF) = some (.type "function"))
    (hn : PySem.W.specialIn K (.builtin "object.__class__") "__get__" = some (some (.builtin "getset_descriptor.__get__"))) (htk : PySem.W.takesIn K (.builtin "object.__class__") = some true)
    (aDIs_name : PySem.W.nsIn K mainGlobals "is_name" = some (some (.ref fDIs_name))) (lDIs_name : K.lookup fDIs_name = some ⟨ocDIs_name, odDIs_name, .func (PySem.W.fnOf "is_name" "is_name" (defArgs sIs_name) (defBody sIs_name) (defScope sIs_name) .none kVDIs_name dcDIs_name pmDIs_name anDIs_name cdDIs_name ctDIs_name), slDIs_name⟩) (cDIs_name : PySem.W.codeIn K cdDIs_name "is_name" = true) (kDIs_name : PySem.W.keepIn K (.ref fDIs_name) = true)
    (aDIs_step : PySem.W.nsIn K mainGlobals "_is_step" = some (some (.ref fDIs_step))) (lDIs_step : K.lookup fDIs_step = some ⟨ocDIs_step, odDIs_step, .func (PySem.W.fnOf "_is_step" "_is_step" (defArgs sIs_step) (defBody sIs_step) (defScope sIs_step) .none kVDIs_step dcDIs_step pmDIs_step anDIs_step cdDIs_step ctDIs_step), slDIs_step⟩) (cDIs_step : PySem.W.codeIn K cdDIs_step "_is_step" = true) (kDIs_step : PySem.W.keepIn K (.ref fDIs_step) = true)
    (aDIs_body : PySem.W.nsIn K mainGlobals "_is_body" = some (some (.ref fDIs_body))) (lDIs_body : K.lookup fDIs_body = some ⟨ocDIs_body, odDIs_body, .func (PySem.W.fnOf "_is_body" "_is_body" (defArgs sIs_body) (defBody sIs_body) (defScope sIs_body) .none kVDIs_body dcDIs_body pmDIs_body anDIs_body cdDIs_body ctDIs_body), slDIs_body⟩) (cDIs_body : PySem.W.codeIn K cdDIs_body "_is_body" = true) (kDIs_body : PySem.W.keepIn K (.ref fDIs_body) = true)
    (aDChecked_bodies : PySem.W.nsIn K mainGlobals "_checked_bodies" = some (some (.ref fDChecked_bodies))) (lDChecked_bodies : K.lookup fDChecked_bodies = some ⟨ocDChecked_bodies, odDChecked_bodies, .func (PySem.W.fnOf "_checked_bodies" "_checked_bodies" (defArgs sChecked_bodies) (defBody sChecked_bodies) (defScope sChecked_bodies) .none kVDChecked_bodies dcDChecked_bodies pmDChecked_bodies anDChecked_bodies cdDChecked_bodies ctDChecked_bodies), slDChecked_bodies⟩) (cDChecked_bodies : PySem.W.codeIn K cdDChecked_bodies "_checked_bodies" = true) (kDChecked_bodies : PySem.W.keepIn K (.ref fDChecked_bodies) = true)
    (aDCheck_callees : PySem.W.nsIn K mainGlobals "_check_callees" = some (some (.ref fDCheck_callees))) (lDCheck_callees : K.lookup fDCheck_callees = some ⟨ocDCheck_callees, odDCheck_callees, .func (PySem.W.fnOf "_check_callees" "_check_callees" (defArgs sCheck_callees) (defBody sCheck_callees) (defScope sCheck_callees) .none kVDCheck_callees dcDCheck_callees pmDCheck_callees anDCheck_callees cdDCheck_callees ctDCheck_callees), slDCheck_callees⟩) (cDCheck_callees : PySem.W.codeIn K cdDCheck_callees "_check_callees" = true) (kDCheck_callees : PySem.W.keepIn K (.ref fDCheck_callees) = true)
    (aDPlaces : PySem.W.nsIn K mainGlobals "_places" = some (some (.ref fDPlaces))) (lDPlaces : K.lookup fDPlaces = some ⟨ocDPlaces, odDPlaces, .func (PySem.W.fnOf "_places" "_places" (defArgs sPlaces) (defBody sPlaces) (defScope sPlaces) .none kVDPlaces dcDPlaces pmDPlaces anDPlaces cdDPlaces ctDPlaces), slDPlaces⟩) (cDPlaces : PySem.W.codeIn K cdDPlaces "_places" = true) (kDPlaces : PySem.W.keepIn K (.ref fDPlaces) = true)
    (aDIs_integer : PySem.W.nsIn K mainGlobals "is_integer" = some (some (.ref fDIs_integer))) (lDIs_integer : K.lookup fDIs_integer = some ⟨ocDIs_integer, odDIs_integer, .func (PySem.W.fnOf "is_integer" "is_integer" (defArgs sIs_integer) (defBody sIs_integer) (defScope sIs_integer) .none kVDIs_integer dcDIs_integer pmDIs_integer anDIs_integer cdDIs_integer ctDIs_integer), slDIs_integer⟩) (cDIs_integer : PySem.W.codeIn K cdDIs_integer "is_integer" = true) (kDIs_integer : PySem.W.keepIn K (.ref fDIs_integer) = true)
    (aDIs_number : PySem.W.nsIn K mainGlobals "is_number" = some (some (.ref fDIs_number))) (lDIs_number : K.lookup fDIs_number = some ⟨ocDIs_number, odDIs_number, .func (PySem.W.fnOf "is_number" "is_number" (defArgs sIs_number) (defBody sIs_number) (defScope sIs_number) .none kVDIs_number dcDIs_number pmDIs_number anDIs_number cdDIs_number ctDIs_number), slDIs_number⟩) (cDIs_number : PySem.W.codeIn K cdDIs_number "is_number" = true) (kDIs_number : PySem.W.keepIn K (.ref fDIs_number) = true)
    (aDIs_item : PySem.W.nsIn K mainGlobals "_is_item" = some (some (.ref fDIs_item))) (lDIs_item : K.lookup fDIs_item = some ⟨ocDIs_item, odDIs_item, .func (PySem.W.fnOf "_is_item" "_is_item" (defArgs sIs_item) (defBody sIs_item) (defScope sIs_item) .none kVDIs_item dcDIs_item pmDIs_item anDIs_item cdDIs_item ctDIs_item), slDIs_item⟩) (cDIs_item : PySem.W.codeIn K cdDIs_item "_is_item" = true) (kDIs_item : PySem.W.keepIn K (.ref fDIs_item) = true)
    (aDIs_row : PySem.W.nsIn K mainGlobals "_is_row" = some (some (.ref fDIs_row))) (lDIs_row : K.lookup fDIs_row = some ⟨ocDIs_row, odDIs_row, .func (PySem.W.fnOf "_is_row" "_is_row" (defArgs sIs_row) (defBody sIs_row) (defScope sIs_row) .none kVDIs_row dcDIs_row pmDIs_row anDIs_row cdDIs_row ctDIs_row), slDIs_row⟩) (cDIs_row : PySem.W.codeIn K cdDIs_row "_is_row" = true) (kDIs_row : PySem.W.keepIn K (.ref fDIs_row) = true)
    (aDCheck_rows : PySem.W.nsIn K mainGlobals "check_rows" = some (some (.ref fDCheck_rows))) (lDCheck_rows : K.lookup fDCheck_rows = some ⟨ocDCheck_rows, odDCheck_rows, .func (PySem.W.fnOf "check_rows" "check_rows" (defArgs sCheck_rows) (defBody sCheck_rows) (defScope sCheck_rows) .none kVDCheck_rows dcDCheck_rows pmDCheck_rows anDCheck_rows cdDCheck_rows ctDCheck_rows), slDCheck_rows⟩) (cDCheck_rows : PySem.W.codeIn K cdDCheck_rows "check_rows" = true) (kDCheck_rows : PySem.W.keepIn K (.ref fDCheck_rows) = true)
    (aDNode_indexes : PySem.W.nsIn K mainGlobals "_node_indexes" = some (some (.ref fDNode_indexes))) (lDNode_indexes : K.lookup fDNode_indexes = some ⟨ocDNode_indexes, odDNode_indexes, .func (PySem.W.fnOf "_node_indexes" "_node_indexes" (defArgs sNode_indexes) (defBody sNode_indexes) (defScope sNode_indexes) .none kVDNode_indexes dcDNode_indexes pmDNode_indexes anDNode_indexes cdDNode_indexes ctDNode_indexes), slDNode_indexes⟩) (cDNode_indexes : PySem.W.codeIn K cdDNode_indexes "_node_indexes" = true) (kDNode_indexes : PySem.W.keepIn K (.ref fDNode_indexes) = true)
    (aDPointing_row : PySem.W.nsIn K mainGlobals "_pointing_row" = some (some (.ref fDPointing_row))) (lDPointing_row : K.lookup fDPointing_row = some ⟨ocDPointing_row, odDPointing_row, .func (PySem.W.fnOf "_pointing_row" "_pointing_row" (defArgs sPointing_row) (defBody sPointing_row) (defScope sPointing_row) .none kVDPointing_row dcDPointing_row pmDPointing_row anDPointing_row cdDPointing_row ctDPointing_row), slDPointing_row⟩) (cDPointing_row : PySem.W.codeIn K cdDPointing_row "_pointing_row" = true) (kDPointing_row : PySem.W.keepIn K (.ref fDPointing_row) = true)
    (aDFiner_classes : PySem.W.nsIn K mainGlobals "_finer_classes" = some (some (.ref fDFiner_classes))) (lDFiner_classes : K.lookup fDFiner_classes = some ⟨ocDFiner_classes, odDFiner_classes, .func (PySem.W.fnOf "_finer_classes" "_finer_classes" (defArgs sFiner_classes) (defBody sFiner_classes) (defScope sFiner_classes) .none kVDFiner_classes dcDFiner_classes pmDFiner_classes anDFiner_classes cdDFiner_classes ctDFiner_classes), slDFiner_classes⟩) (cDFiner_classes : PySem.W.codeIn K cdDFiner_classes "_finer_classes" = true) (kDFiner_classes : PySem.W.keepIn K (.ref fDFiner_classes) = true)
    (aDClasses : PySem.W.nsIn K mainGlobals "_classes" = some (some (.ref fDClasses))) (lDClasses : K.lookup fDClasses = some ⟨ocDClasses, odDClasses, .func (PySem.W.fnOf "_classes" "_classes" (defArgs sClasses) (defBody sClasses) (defScope sClasses) .none kVDClasses dcDClasses pmDClasses anDClasses cdDClasses ctDClasses), slDClasses⟩) (cDClasses : PySem.W.codeIn K cdDClasses "_classes" = true) (kDClasses : PySem.W.keepIn K (.ref fDClasses) = true)
    (aDNumbered_rows : PySem.W.nsIn K mainGlobals "numbered_rows" = some (some (.ref fDNumbered_rows))) (lDNumbered_rows : K.lookup fDNumbered_rows = some ⟨ocDNumbered_rows, odDNumbered_rows, .func (PySem.W.fnOf "numbered_rows" "numbered_rows" (defArgs sNumbered_rows) (defBody sNumbered_rows) (defScope sNumbered_rows) .none kVDNumbered_rows dcDNumbered_rows pmDNumbered_rows anDNumbered_rows cdDNumbered_rows ctDNumbered_rows), slDNumbered_rows⟩) (cDNumbered_rows : PySem.W.codeIn K cdDNumbered_rows "numbered_rows" = true) (kDNumbered_rows : PySem.W.keepIn K (.ref fDNumbered_rows) = true)
    (aDCheck_procedure : PySem.W.nsIn K mainGlobals "check_procedure" = some (some (.ref fDCheck_procedure))) (lDCheck_procedure : K.lookup fDCheck_procedure = some ⟨ocDCheck_procedure, odDCheck_procedure, .func (PySem.W.fnOf "check_procedure" "check_procedure" (defArgs sCheck_procedure) (defBody sCheck_procedure) (defScope sCheck_procedure) .none kVDCheck_procedure dcDCheck_procedure pmDCheck_procedure anDCheck_procedure cdDCheck_procedure ctDCheck_procedure), slDCheck_procedure⟩) (cDCheck_procedure : PySem.W.codeIn K cdDCheck_procedure "check_procedure" = true) (kDCheck_procedure : PySem.W.keepIn K (.ref fDCheck_procedure) = true)
    (aDChecked_procedures : PySem.W.nsIn K mainGlobals "checked_procedures" = some (some (.ref fDChecked_procedures))) (lDChecked_procedures : K.lookup fDChecked_procedures = some ⟨ocDChecked_procedures, odDChecked_procedures, .func (PySem.W.fnOf "checked_procedures" "checked_procedures" (defArgs sChecked_procedures) (defBody sChecked_procedures) (defScope sChecked_procedures) .none kVDChecked_procedures dcDChecked_procedures pmDChecked_procedures anDChecked_procedures cdDChecked_procedures ctDChecked_procedures), slDChecked_procedures⟩) (cDChecked_procedures : PySem.W.codeIn K cdDChecked_procedures "checked_procedures" = true) (kDChecked_procedures : PySem.W.keepIn K (.ref fDChecked_procedures) = true)
    (aDCheck_place : PySem.W.nsIn K mainGlobals "check_place" = some (some (.ref fDCheck_place))) (lDCheck_place : K.lookup fDCheck_place = some ⟨ocDCheck_place, odDCheck_place, .func (PySem.W.fnOf "check_place" "check_place" (defArgs sCheck_place) (defBody sCheck_place) (defScope sCheck_place) .none kVDCheck_place dcDCheck_place pmDCheck_place anDCheck_place cdDCheck_place ctDCheck_place), slDCheck_place⟩) (cDCheck_place : PySem.W.codeIn K cdDCheck_place "check_place" = true) (kDCheck_place : PySem.W.keepIn K (.ref fDCheck_place) = true)
    (aDChecked_places : PySem.W.nsIn K mainGlobals "checked_places" = some (some (.ref fDChecked_places))) (lDChecked_places : K.lookup fDChecked_places = some ⟨ocDChecked_places, odDChecked_places, .func (PySem.W.fnOf "checked_places" "checked_places" (defArgs sChecked_places) (defBody sChecked_places) (defScope sChecked_places) .none kVDChecked_places dcDChecked_places pmDChecked_places anDChecked_places cdDChecked_places ctDChecked_places), slDChecked_places⟩) (cDChecked_places : PySem.W.codeIn K cdDChecked_places "checked_places" = true) (kDChecked_places : PySem.W.keepIn K (.ref fDChecked_places) = true)
    (aDChecked_numbers : PySem.W.nsIn K mainGlobals "checked_numbers" = some (some (.ref fDChecked_numbers))) (lDChecked_numbers : K.lookup fDChecked_numbers = some ⟨ocDChecked_numbers, odDChecked_numbers, .func (PySem.W.fnOf "checked_numbers" "checked_numbers" (defArgs sChecked_numbers) (defBody sChecked_numbers) (defScope sChecked_numbers) .none kVDChecked_numbers dcDChecked_numbers pmDChecked_numbers anDChecked_numbers cdDChecked_numbers ctDChecked_numbers), slDChecked_numbers⟩) (cDChecked_numbers : PySem.W.codeIn K cdDChecked_numbers "checked_numbers" = true) (kDChecked_numbers : PySem.W.keepIn K (.ref fDChecked_numbers) = true)
    (aDRequiring_paths : PySem.W.nsIn K mainGlobals "requiring_paths" = some (some (.ref fDRequiring_paths))) (lDRequiring_paths : K.lookup fDRequiring_paths = some ⟨ocDRequiring_paths, odDRequiring_paths, .func (PySem.W.fnOf "requiring_paths" "requiring_paths" (defArgs sRequiring_paths) (defBody sRequiring_paths) (defScope sRequiring_paths) .none kVDRequiring_paths dcDRequiring_paths pmDRequiring_paths anDRequiring_paths cdDRequiring_paths ctDRequiring_paths), slDRequiring_paths⟩) (cDRequiring_paths : PySem.W.codeIn K cdDRequiring_paths "requiring_paths" = true) (kDRequiring_paths : PySem.W.keepIn K (.ref fDRequiring_paths) = true)
    (aDFailure : PySem.W.nsIn K mainGlobals "failure" = some (some (.ref fDFailure))) (lDFailure : K.lookup fDFailure = some ⟨ocDFailure, odDFailure, .func (PySem.W.fnOf "failure" "failure" (defArgs sFailure) (defBody sFailure) (defScope sFailure) .none kVDFailure dcDFailure pmDFailure anDFailure cdDFailure ctDFailure), slDFailure⟩) (cDFailure : PySem.W.codeIn K cdDFailure "failure" = true) (kDFailure : PySem.W.keepIn K (.ref fDFailure) = true)
    (aDPresent_nodes : PySem.W.nsIn K mainGlobals "_present_nodes" = some (some (.ref fDPresent_nodes))) (lDPresent_nodes : K.lookup fDPresent_nodes = some ⟨ocDPresent_nodes, odDPresent_nodes, .func (PySem.W.fnOf "_present_nodes" "_present_nodes" (defArgs sPresent_nodes) (defBody sPresent_nodes) (defScope sPresent_nodes) .none kVDPresent_nodes dcDPresent_nodes pmDPresent_nodes anDPresent_nodes cdDPresent_nodes ctDPresent_nodes), slDPresent_nodes⟩) (cDPresent_nodes : PySem.W.codeIn K cdDPresent_nodes "_present_nodes" = true) (kDPresent_nodes : PySem.W.keepIn K (.ref fDPresent_nodes) = true)
    (aDItem : PySem.W.nsIn K mainGlobals "_item" = some (some (.ref fDItem))) (lDItem : K.lookup fDItem = some ⟨ocDItem, odDItem, .func (PySem.W.fnOf "_item" "_item" (defArgs sItem) (defBody sItem) (defScope sItem) .none kVDItem dcDItem pmDItem anDItem cdDItem ctDItem), slDItem⟩) (cDItem : PySem.W.codeIn K cdDItem "_item" = true) (kDItem : PySem.W.keepIn K (.ref fDItem) = true)
    (aDRows_of_all : PySem.W.nsIn K mainGlobals "rows_of_all" = some (some (.ref fDRows_of_all))) (lDRows_of_all : K.lookup fDRows_of_all = some ⟨ocDRows_of_all, odDRows_of_all, .func (PySem.W.fnOf "rows_of_all" "rows_of_all" (defArgs sRows_of_all) (defBody sRows_of_all) (defScope sRows_of_all) .none kVDRows_of_all dcDRows_of_all pmDRows_of_all anDRows_of_all cdDRows_of_all ctDRows_of_all), slDRows_of_all⟩) (cDRows_of_all : PySem.W.codeIn K cdDRows_of_all "rows_of_all" = true) (kDRows_of_all : PySem.W.keepIn K (.ref fDRows_of_all) = true)
    (aDSource : PySem.W.nsIn K mainGlobals "_law_source" = some (some (.ref fDSource))) (lDSource : K.lookup fDSource = some ⟨ocDSource, odDSource, .func (PySem.W.fnOf "_law_source" "_law_source" (defArgs sSource) (defBody sSource) (defScope sSource) .none kVDSource dcDSource pmDSource anDSource cdDSource ctDSource), slDSource⟩) (cDSource : PySem.W.codeIn K cdDSource "_law_source" = true) (kDSource : PySem.W.keepIn K (.ref fDSource) = true)
    (aDDraw : PySem.W.nsIn K mainGlobals "_law_draw" = some (some (.ref fDDraw))) (lDDraw : K.lookup fDDraw = some ⟨ocDDraw, odDDraw, .func (PySem.W.fnOf "_law_draw" "_law_draw" (defArgs sDraw) (defBody sDraw) (defScope sDraw) .none kVDDraw dcDDraw pmDDraw anDDraw cdDDraw ctDDraw), slDDraw⟩) (cDDraw : PySem.W.codeIn K cdDDraw "_law_draw" = true) (kDDraw : PySem.W.keepIn K (.ref fDDraw) = true)
    (aDName : PySem.W.nsIn K mainGlobals "_law_name" = some (some (.ref fDName))) (lDName : K.lookup fDName = some ⟨ocDName, odDName, .func (PySem.W.fnOf "_law_name" "_law_name" (defArgs sName) (defBody sName) (defScope sName) .none kVDName dcDName pmDName anDName cdDName ctDName), slDName⟩) (cDName : PySem.W.codeIn K cdDName "_law_name" = true) (kDName : PySem.W.keepIn K (.ref fDName) = true)
    (aDNames : PySem.W.nsIn K mainGlobals "_law_names" = some (some (.ref fDNames))) (lDNames : K.lookup fDNames = some ⟨ocDNames, odDNames, .func (PySem.W.fnOf "_law_names" "_law_names" (defArgs sNames) (defBody sNames) (defScope sNames) .none kVDNames dcDNames pmDNames anDNames cdDNames ctDNames), slDNames⟩) (cDNames : PySem.W.codeIn K cdDNames "_law_names" = true) (kDNames : PySem.W.keepIn K (.ref fDNames) = true)
    (aDCopy : PySem.W.nsIn K mainGlobals "_law_copy" = some (some (.ref fDCopy))) (lDCopy : K.lookup fDCopy = some ⟨ocDCopy, odDCopy, .func (PySem.W.fnOf "_law_copy" "_law_copy" (defArgs sCopy) (defBody sCopy) (defScope sCopy) .none kVDCopy dcDCopy pmDCopy anDCopy cdDCopy ctDCopy), slDCopy⟩) (cDCopy : PySem.W.codeIn K cdDCopy "_law_copy" = true) (kDCopy : PySem.W.keepIn K (.ref fDCopy) = true)
    (aDSubset : PySem.W.nsIn K mainGlobals "_law_subset" = some (some (.ref fDSubset))) (lDSubset : K.lookup fDSubset = some ⟨ocDSubset, odDSubset, .func (PySem.W.fnOf "_law_subset" "_law_subset" (defArgs sSubset) (defBody sSubset) (defScope sSubset) .none kVDSubset dcDSubset pmDSubset anDSubset cdDSubset ctDSubset), slDSubset⟩) (cDSubset : PySem.W.codeIn K cdDSubset "_law_subset" = true) (kDSubset : PySem.W.keepIn K (.ref fDSubset) = true)
    (aDNumber : PySem.W.nsIn K mainGlobals "_law_number" = some (some (.ref fDNumber))) (lDNumber : K.lookup fDNumber = some ⟨ocDNumber, odDNumber, .func (PySem.W.fnOf "_law_number" "_law_number" (defArgs sNumber) (defBody sNumber) (defScope sNumber) .none kVDNumber dcDNumber pmDNumber anDNumber cdDNumber ctDNumber), slDNumber⟩) (cDNumber : PySem.W.codeIn K cdDNumber "_law_number" = true) (kDNumber : PySem.W.keepIn K (.ref fDNumber) = true)
    (aDNumbers : PySem.W.nsIn K mainGlobals "_law_numbers" = some (some (.ref fDNumbers))) (lDNumbers : K.lookup fDNumbers = some ⟨ocDNumbers, odDNumbers, .func (PySem.W.fnOf "_law_numbers" "_law_numbers" (defArgs sNumbers) (defBody sNumbers) (defScope sNumbers) .none kVDNumbers dcDNumbers pmDNumbers anDNumbers cdDNumbers ctDNumbers), slDNumbers⟩) (cDNumbers : PySem.W.codeIn K cdDNumbers "_law_numbers" = true) (kDNumbers : PySem.W.keepIn K (.ref fDNumbers) = true)
    (aDBody_drawn : PySem.W.nsIn K mainGlobals "_law_body_drawn" = some (some (.ref fDBody_drawn))) (lDBody_drawn : K.lookup fDBody_drawn = some ⟨ocDBody_drawn, odDBody_drawn, .func (PySem.W.fnOf "_law_body_drawn" "_law_body_drawn" (defArgs sBody_drawn) (defBody sBody_drawn) (defScope sBody_drawn) .none kVDBody_drawn dcDBody_drawn pmDBody_drawn anDBody_drawn cdDBody_drawn ctDBody_drawn), slDBody_drawn⟩) (cDBody_drawn : PySem.W.codeIn K cdDBody_drawn "_law_body_drawn" = true) (kDBody_drawn : PySem.W.keepIn K (.ref fDBody_drawn) = true)
    (aDPlain_try : PySem.W.nsIn K mainGlobals "_law_plain_try" = some (some (.ref fDPlain_try))) (lDPlain_try : K.lookup fDPlain_try = some ⟨ocDPlain_try, odDPlain_try, .func (PySem.W.fnOf "_law_plain_try" "_law_plain_try" (defArgs sPlain_try) (defBody sPlain_try) (defScope sPlain_try) .none kVDPlain_try dcDPlain_try pmDPlain_try anDPlain_try cdDPlain_try ctDPlain_try), slDPlain_try⟩) (cDPlain_try : PySem.W.codeIn K cdDPlain_try "_law_plain_try" = true) (kDPlain_try : PySem.W.keepIn K (.ref fDPlain_try) = true)
    (aDDue : PySem.W.nsIn K mainGlobals "_law_due" = some (some (.ref fDDue))) (lDDue : K.lookup fDDue = some ⟨ocDDue, odDDue, .func (PySem.W.fnOf "_law_due" "_law_due" (defArgs sDue) (defBody sDue) (defScope sDue) .none kVDDue dcDDue pmDDue anDDue cdDDue ctDDue), slDDue⟩) (cDDue : PySem.W.codeIn K cdDDue "_law_due" = true) (kDDue : PySem.W.keepIn K (.ref fDDue) = true)
    (aDLaw : PySem.W.nsIn K mainGlobals "law" = some (some (.ref fDLaw))) (lDLaw : K.lookup fDLaw = some ⟨ocDLaw, odDLaw, .func (PySem.W.fnOf "law" "law" (defArgs sLaw) (defBody sLaw) (defScope sLaw) .none kVDLaw dcDLaw pmDLaw anDLaw cdDLaw ctDLaw), slDLaw⟩) (cDLaw : PySem.W.codeIn K cdDLaw "law" = true) (kDLaw : PySem.W.keepIn K (.ref fDLaw) = true)
    (iaEPaths_from : PySem.W.nsIn K mainGlobals "paths_from" = some (some (.ref fEPaths_from))) (ilEPaths_from : K.lookup fEPaths_from = some ⟨ocEPaths_from, odEPaths_from, .func (PySem.W.fnOf "paths_from" "paths_from" (defArgs sPaths_from) (defBody sPaths_from) (defScope sPaths_from) (.ref tDEPaths_from) kVEPaths_from dcEPaths_from pmEPaths_from anEPaths_from cdEPaths_from cuEPaths_from), slEPaths_from⟩) (icEPaths_from : PySem.W.codeIn K cdEPaths_from "paths_from" = true) (ikEPaths_from : PySem.W.keepIn K (.ref fEPaths_from) = true)
    (t1EPaths_from : K.lookup tDEPaths_from = some o1EPaths_from) (t2EPaths_from : o1EPaths_from.data = .seq itsEPaths_from.toArray n1EPaths_from) (t3EPaths_from : itsEPaths_from = [.ref t0EPaths_from]) (t4EPaths_from : K.lookup t0EPaths_from = some o2EPaths_from) (t5EPaths_from : o2EPaths_from.data = .seq ([] : List Value).toArray n2EPaths_from) (t6EPaths_from : o2EPaths_from.cls = .type "tuple")
    (iaPPlain_result : PySem.W.nsIn K mainGlobals "plain_result" = some (some (.ref fPPlain_result))) (ilPPlain_result : K.lookup fPPlain_result = some ⟨ocPPlain_result, odPPlain_result, .func (PySem.W.fnOf "plain_result" "plain_result" (defArgs sPlain_result) (defBody sPlain_result) (defScope sPlain_result) .none (.ref kDPPlain_result) dcPPlain_result pmPPlain_result anPPlain_result cdPPlain_result cuPPlain_result), slPPlain_result⟩) (icPPlain_result : PySem.W.codeIn K cdPPlain_result "plain_result" = true) (ikPPlain_result : PySem.W.keepIn K (.ref fPPlain_result) = true)
    (t3PPlain_result0 : PySem.W.nsIn K kDPPlain_result "numbers" = some (some .none))
    (t3PPlain_result1 : PySem.W.nsIn K kDPPlain_result "broken" = some (some (.ref t0PPlain_result1))) (t4PPlain_result1 : K.lookup t0PPlain_result1 = some o2PPlain_result1) (t5PPlain_result1 : o2PPlain_result1.data = .seq ([] : List Value).toArray n2PPlain_result1) (t6PPlain_result1 : o2PPlain_result1.cls = .type "tuple")
    (t3PPlain_result2 : PySem.W.nsIn K kDPPlain_result "spared" = some (some (.ref t0PPlain_result2))) (t4PPlain_result2 : K.lookup t0PPlain_result2 = some o2PPlain_result2) (t5PPlain_result2 : o2PPlain_result2.data = .seq ([] : List Value).toArray n2PPlain_result2) (t6PPlain_result2 : o2PPlain_result2.cls = .type "tuple")
    (aLONGEST_NAME : PySem.W.nsIn K mainGlobals "LONGEST_NAME" = some (some (.int 8 tkLONGEST_NAME)))
    (aMOST_STEPS : PySem.W.nsIn K mainGlobals "MOST_STEPS" = some (some (.int 12 tkMOST_STEPS)))
    (aMOST_PROCEDURES : PySem.W.nsIn K mainGlobals "MOST_PROCEDURES" = some (some (.int 16 tkMOST_PROCEDURES)))
    (aMOST_ROWS : PySem.W.nsIn K mainGlobals "MOST_ROWS" = some (some (.int 40 tkMOST_ROWS)))
    (aMOST_ITEMS : PySem.W.nsIn K mainGlobals "MOST_ITEMS" = some (some (.int 12 tkMOST_ITEMS)))
    (aKINDS : PySem.W.nsIn K mainGlobals "KINDS" = some (some (.ref xKINDS))) (lKINDS : K.lookup xKINDS = some oKINDS) (dKINDS : oKINDS.data = .seq itsKINDS.toArray nKINDS) (iKINDS : itsKINDS = [.str "read" uKINDS0, .str "say" uKINDS1, .str "call" uKINDS2, .str "try" uKINDS3]) (cKINDS : oKINDS.cls = .type "tuple")
    (aCALLING_KINDS : PySem.W.nsIn K mainGlobals "CALLING_KINDS" = some (some (.ref xCALLING_KINDS))) (lCALLING_KINDS : K.lookup xCALLING_KINDS = some oCALLING_KINDS) (dCALLING_KINDS : oCALLING_KINDS.data = .seq itsCALLING_KINDS.toArray nCALLING_KINDS) (iCALLING_KINDS : itsCALLING_KINDS = [.str "call" uCALLING_KINDS0, .str "try" uCALLING_KINDS1]) (cCALLING_KINDS : oCALLING_KINDS.cls = .type "tuple")
    (aREQUIRING_KINDS : PySem.W.nsIn K mainGlobals "REQUIRING_KINDS" = some (some (.ref xREQUIRING_KINDS))) (lREQUIRING_KINDS : K.lookup xREQUIRING_KINDS = some oREQUIRING_KINDS) (dREQUIRING_KINDS : oREQUIRING_KINDS.data = .seq itsREQUIRING_KINDS.toArray nREQUIRING_KINDS) (iREQUIRING_KINDS : itsREQUIRING_KINDS = [.str "call" uREQUIRING_KINDS0]) (cREQUIRING_KINDS : oREQUIRING_KINDS.cls = .type "tuple")
    (aGAP : PySem.W.nsIn K mainGlobals "GAP" = some (some (.ref xGAP))) (lGAP : K.lookup xGAP = some oGAP) (dGAP : oGAP.data = .seq itsGAP.toArray nGAP) (iGAP : itsGAP = [.str "gap" uGAP0]) (cGAP : oGAP.cls = .type "tuple")
    (zint : PySem.W.nsIn K mainGlobals "int" = some none)
    (zenumerate : PySem.W.nsIn K mainGlobals "enumerate" = some none)
    (zrange : PySem.W.nsIn K mainGlobals "range" = some none)
    (zlist : PySem.W.nsIn K mainGlobals "list" = some none)
    (ztuple : PySem.W.nsIn K mainGlobals "tuple" = some none)
    (zsorted : PySem.W.nsIn K mainGlobals "sorted" = some none)
    (zstr : PySem.W.nsIn K mainGlobals "str" = some none)
    (zall : PySem.W.nsIn K mainGlobals "all" = some none)
    (zisinstance : PySem.W.nsIn K mainGlobals "isinstance" = some none)
    (zbool : PySem.W.nsIn K mainGlobals "bool" = some none)
    (zlen : PySem.W.nsIn K mainGlobals "len" = some none)
    (zset : PySem.W.nsIn K mainGlobals "set" = some none)
    (zabs : PySem.W.nsIn K mainGlobals "abs" = some none)
    (zdict : PySem.W.nsIn K mainGlobals "dict" = some none) :
    ∃ fd : FuncData, (∀ (s : Shared) (v : Value), BindsTo s fd ⟨[v], []⟩ [("_law_script", v)]) ∧ ∀ base : Heap, K.In base → base.Ns mainGlobals mg → FnOk l.prog w K mg base CX0 11 fa fd ["_law_script"] (spLaw K) := by
  have mCneq : MetF K Cn "__eq__" "NameSet.__eq__" sNameSetEq fCneq := ⟨⟨_, _, _, _, _, _, _, _, _, aCneq, lCneq, cCneq, kCneq, iCneq, nCneq⟩⟩
  have mCnle : MetF K Cn "__le__" "NameSet.__le__" sNameSetLe fCnle := ⟨⟨_, _, _, _, _, _, _, _, _, aCnle, lCnle, cCnle, kCnle, iCnle, nCnle⟩⟩
  have mCnor : MetF K Cn "__or__" "NameSet.__or__" sNameSetOr fCnor := ⟨⟨_, _, _, _, _, _, _, _, _, aCnor, lCnor, cCnor, kCnor, iCnor, nCnor⟩⟩
  have mCncontains : MetF K Cn "__contains__" "NameSet.__contains__" sNameSetContains fCncontains := ⟨⟨_, _, _, _, _, _, _, _, _, aCncontains, lCncontains, cCncontains, kCncontains, iCncontains, nCncontains⟩⟩
  have mICp : MetF K Cp "__init__" "Program.__init__" sProgramInit fICp := ⟨⟨_, _, _, _, _, _, _, _, _, aICp, lICp, cICp, kICp, iICp, nICp⟩⟩
  have mCpeq : MetF K Cp "__eq__" "Program.__eq__" sProgramEq fCpeq := ⟨⟨_, _, _, _, _, _, _, _, _, aCpeq, lCpeq, cCpeq, kCpeq, iCpeq, nCpeq⟩⟩
  have mCpgetitem : MetF K Cp "__getitem__" "Program.__getitem__" sProgramGetitem fCpgetitem := ⟨⟨_, _, _, _, _, _, _, _, _, aCpgetitem, lCpgetitem, cCpgetitem, kCpgetitem, iCpgetitem, nCpgetitem⟩⟩
  have mCpcontains : MetF K Cp "__contains__" "Program.__contains__" sProgramContains fCpcontains := ⟨⟨_, _, _, _, _, _, _, _, _, aCpcontains, lCpcontains, cCpcontains, kCpcontains, iCpcontains, nCpcontains⟩⟩
  have mCplen : MetF K Cp "__len__" "Program.__len__" sProgramLen fCplen := ⟨⟨_, _, _, _, _, _, _, _, _, aCplen, lCplen, cCplen, kCplen, iCplen, nCplen⟩⟩
  have mICr : MetF K Cr "__init__" "Result.__init__" sResultInit fICr := ⟨⟨_, _, _, _, _, _, _, _, _, aICr, lICr, cICr, kICr, iICr, nICr⟩⟩
  have mCrrows : MetF K Cr "rows" "Result.rows" sResultRows fCrrows := ⟨⟨_, _, _, _, _, _, _, _, _, aCrrows, lCrrows, cCrrows, kCrrows, iCrrows, nCrrows⟩⟩
  have mICF : MetF K CF "__init__" "CallFailed.__init__" sCallFailedInit fICF := ⟨⟨_, _, _, _, _, _, _, _, _, aICF, lICF, cICF, kICF, iICF, nICF⟩⟩
  have DCF : ClF K Me CF "CallFailed" := ⟨⟨_, _, _, _, _, _, _, _, _, _, _, _, _, lCCF⟩, saCF, tyCF, kcCF, hgCF, hkCF, haCF, hdCF⟩
  have dDIs_name : DefF K "is_name" sIs_name fDIs_name := ⟨⟨_, _, _, _, _, _, _, _, _, aDIs_name, lDIs_name, cDIs_name, kDIs_name⟩⟩
  have dDIs_step : DefF K "_is_step" sIs_step fDIs_step := ⟨⟨_, _, _, _, _, _, _, _, _, aDIs_step, lDIs_step, cDIs_step, kDIs_step⟩⟩
  have dDIs_body : DefF K "_is_body" sIs_body fDIs_body := ⟨⟨_, _, _, _, _, _, _, _, _, aDIs_body, lDIs_body, cDIs_body, kDIs_body⟩⟩
  have dDChecked_bodies : DefF K "_checked_bodies" sChecked_bodies fDChecked_bodies := ⟨⟨_, _, _, _, _, _, _, _, _, aDChecked_bodies, lDChecked_bodies, cDChecked_bodies, kDChecked_bodies⟩⟩
  have dDCheck_callees : DefF K "_check_callees" sCheck_callees fDCheck_callees := ⟨⟨_, _, _, _, _, _, _, _, _, aDCheck_callees, lDCheck_callees, cDCheck_callees, kDCheck_callees⟩⟩
  have dDPlaces : DefF K "_places" sPlaces fDPlaces := ⟨⟨_, _, _, _, _, _, _, _, _, aDPlaces, lDPlaces, cDPlaces, kDPlaces⟩⟩
  have dDIs_integer : DefF K "is_integer" sIs_integer fDIs_integer := ⟨⟨_, _, _, _, _, _, _, _, _, aDIs_integer, lDIs_integer, cDIs_integer, kDIs_integer⟩⟩
  have dDIs_number : DefF K "is_number" sIs_number fDIs_number := ⟨⟨_, _, _, _, _, _, _, _, _, aDIs_number, lDIs_number, cDIs_number, kDIs_number⟩⟩
  have dDIs_item : DefF K "_is_item" sIs_item fDIs_item := ⟨⟨_, _, _, _, _, _, _, _, _, aDIs_item, lDIs_item, cDIs_item, kDIs_item⟩⟩
  have dDIs_row : DefF K "_is_row" sIs_row fDIs_row := ⟨⟨_, _, _, _, _, _, _, _, _, aDIs_row, lDIs_row, cDIs_row, kDIs_row⟩⟩
  have dDCheck_rows : DefF K "check_rows" sCheck_rows fDCheck_rows := ⟨⟨_, _, _, _, _, _, _, _, _, aDCheck_rows, lDCheck_rows, cDCheck_rows, kDCheck_rows⟩⟩
  have dDNode_indexes : DefF K "_node_indexes" sNode_indexes fDNode_indexes := ⟨⟨_, _, _, _, _, _, _, _, _, aDNode_indexes, lDNode_indexes, cDNode_indexes, kDNode_indexes⟩⟩
  have dDPointing_row : DefF K "_pointing_row" sPointing_row fDPointing_row := ⟨⟨_, _, _, _, _, _, _, _, _, aDPointing_row, lDPointing_row, cDPointing_row, kDPointing_row⟩⟩
  have dDFiner_classes : DefF K "_finer_classes" sFiner_classes fDFiner_classes := ⟨⟨_, _, _, _, _, _, _, _, _, aDFiner_classes, lDFiner_classes, cDFiner_classes, kDFiner_classes⟩⟩
  have dDClasses : DefF K "_classes" sClasses fDClasses := ⟨⟨_, _, _, _, _, _, _, _, _, aDClasses, lDClasses, cDClasses, kDClasses⟩⟩
  have dDNumbered_rows : DefF K "numbered_rows" sNumbered_rows fDNumbered_rows := ⟨⟨_, _, _, _, _, _, _, _, _, aDNumbered_rows, lDNumbered_rows, cDNumbered_rows, kDNumbered_rows⟩⟩
  have dDCheck_procedure : DefF K "check_procedure" sCheck_procedure fDCheck_procedure := ⟨⟨_, _, _, _, _, _, _, _, _, aDCheck_procedure, lDCheck_procedure, cDCheck_procedure, kDCheck_procedure⟩⟩
  have dDChecked_procedures : DefF K "checked_procedures" sChecked_procedures fDChecked_procedures := ⟨⟨_, _, _, _, _, _, _, _, _, aDChecked_procedures, lDChecked_procedures, cDChecked_procedures, kDChecked_procedures⟩⟩
  have dDCheck_place : DefF K "check_place" sCheck_place fDCheck_place := ⟨⟨_, _, _, _, _, _, _, _, _, aDCheck_place, lDCheck_place, cDCheck_place, kDCheck_place⟩⟩
  have dDChecked_places : DefF K "checked_places" sChecked_places fDChecked_places := ⟨⟨_, _, _, _, _, _, _, _, _, aDChecked_places, lDChecked_places, cDChecked_places, kDChecked_places⟩⟩
  have dDChecked_numbers : DefF K "checked_numbers" sChecked_numbers fDChecked_numbers := ⟨⟨_, _, _, _, _, _, _, _, _, aDChecked_numbers, lDChecked_numbers, cDChecked_numbers, kDChecked_numbers⟩⟩
  have dDRequiring_paths : DefF K "requiring_paths" sRequiring_paths fDRequiring_paths := ⟨⟨_, _, _, _, _, _, _, _, _, aDRequiring_paths, lDRequiring_paths, cDRequiring_paths, kDRequiring_paths⟩⟩
  have dDFailure : DefF K "failure" sFailure fDFailure := ⟨⟨_, _, _, _, _, _, _, _, _, aDFailure, lDFailure, cDFailure, kDFailure⟩⟩
  have dDPresent_nodes : DefF K "_present_nodes" sPresent_nodes fDPresent_nodes := ⟨⟨_, _, _, _, _, _, _, _, _, aDPresent_nodes, lDPresent_nodes, cDPresent_nodes, kDPresent_nodes⟩⟩
  have dDItem : DefF K "_item" sItem fDItem := ⟨⟨_, _, _, _, _, _, _, _, _, aDItem, lDItem, cDItem, kDItem⟩⟩
  have dDRows_of_all : DefF K "rows_of_all" sRows_of_all fDRows_of_all := ⟨⟨_, _, _, _, _, _, _, _, _, aDRows_of_all, lDRows_of_all, cDRows_of_all, kDRows_of_all⟩⟩
  have dDSource : DefF K "_law_source" sSource fDSource := ⟨⟨_, _, _, _, _, _, _, _, _, aDSource, lDSource, cDSource, kDSource⟩⟩
  have dDDraw : DefF K "_law_draw" sDraw fDDraw := ⟨⟨_, _, _, _, _, _, _, _, _, aDDraw, lDDraw, cDDraw, kDDraw⟩⟩
  have dDName : DefF K "_law_name" sName fDName := ⟨⟨_, _, _, _, _, _, _, _, _, aDName, lDName, cDName, kDName⟩⟩
  have dDNames : DefF K "_law_names" sNames fDNames := ⟨⟨_, _, _, _, _, _, _, _, _, aDNames, lDNames, cDNames, kDNames⟩⟩
  have dDCopy : DefF K "_law_copy" sCopy fDCopy := ⟨⟨_, _, _, _, _, _, _, _, _, aDCopy, lDCopy, cDCopy, kDCopy⟩⟩
  have dDSubset : DefF K "_law_subset" sSubset fDSubset := ⟨⟨_, _, _, _, _, _, _, _, _, aDSubset, lDSubset, cDSubset, kDSubset⟩⟩
  have dDNumber : DefF K "_law_number" sNumber fDNumber := ⟨⟨_, _, _, _, _, _, _, _, _, aDNumber, lDNumber, cDNumber, kDNumber⟩⟩
  have dDNumbers : DefF K "_law_numbers" sNumbers fDNumbers := ⟨⟨_, _, _, _, _, _, _, _, _, aDNumbers, lDNumbers, cDNumbers, kDNumbers⟩⟩
  have dDBody_drawn : DefF K "_law_body_drawn" sBody_drawn fDBody_drawn := ⟨⟨_, _, _, _, _, _, _, _, _, aDBody_drawn, lDBody_drawn, cDBody_drawn, kDBody_drawn⟩⟩
  have dDPlain_try : DefF K "_law_plain_try" sPlain_try fDPlain_try := ⟨⟨_, _, _, _, _, _, _, _, _, aDPlain_try, lDPlain_try, cDPlain_try, kDPlain_try⟩⟩
  have dDDue : DefF K "_law_due" sDue fDDue := ⟨⟨_, _, _, _, _, _, _, _, _, aDDue, lDDue, cDDue, kDDue⟩⟩
  have dDLaw : DefF K "law" sLaw fDLaw := ⟨⟨_, _, _, _, _, _, _, _, _, aDLaw, lDLaw, cDLaw, kDLaw⟩⟩
  have vLONGEST_NAME : mg "LONGEST_NAME" = some (.int 8 tkLONGEST_NAME) := PySem.W.mg_of X G aLONGEST_NAME
  have vMOST_STEPS : mg "MOST_STEPS" = some (.int 12 tkMOST_STEPS) := PySem.W.mg_of X G aMOST_STEPS
  have vMOST_PROCEDURES : mg "MOST_PROCEDURES" = some (.int 16 tkMOST_PROCEDURES) := PySem.W.mg_of X G aMOST_PROCEDURES
  have vMOST_ROWS : mg "MOST_ROWS" = some (.int 40 tkMOST_ROWS) := PySem.W.mg_of X G aMOST_ROWS
  have vMOST_ITEMS : mg "MOST_ITEMS" = some (.int 12 tkMOST_ITEMS) := PySem.W.mg_of X G aMOST_ITEMS
  have vKINDS : mg "KINDS" = some (.ref xKINDS) := PySem.W.mg_of X G aKINDS
  have qKINDS : ∀ H, SqT K H xKINDS ([("read" : Str), ("say" : Str), ("call" : Str), ("try" : Str)].map V.str) := fun H => .inr ⟨oKINDS, itsKINDS.toArray, nKINDS, lKINDS, cKINDS, dKINDS, by rw [iKINDS]; show 4 ≤ sizeLine; decide, by rw [iKINDS]; exact (.cons ⟨uKINDS0, rfl⟩ (.cons ⟨uKINDS1, rfl⟩ (.cons ⟨uKINDS2, rfl⟩ (.cons ⟨uKINDS3, rfl⟩ .nil))))⟩
  have vCALLING_KINDS : mg "CALLING_KINDS" = some (.ref xCALLING_KINDS) := PySem.W.mg_of X G aCALLING_KINDS
  have qCALLING_KINDS : ∀ H, SqT K H xCALLING_KINDS ([("call" : Str), ("try" : Str)].map V.str) := fun H => .inr ⟨oCALLING_KINDS, itsCALLING_KINDS.toArray, nCALLING_KINDS, lCALLING_KINDS, cCALLING_KINDS, dCALLING_KINDS, by rw [iCALLING_KINDS]; show 2 ≤ sizeLine; decide, by rw [iCALLING_KINDS]; exact (.cons ⟨uCALLING_KINDS0, rfl⟩ (.cons ⟨uCALLING_KINDS1, rfl⟩ .nil))⟩
  have vREQUIRING_KINDS : mg "REQUIRING_KINDS" = some (.ref xREQUIRING_KINDS) := PySem.W.mg_of X G aREQUIRING_KINDS
  have qREQUIRING_KINDS : ∀ H, SqT K H xREQUIRING_KINDS ([("call" : Str)].map V.str) := fun H => .inr ⟨oREQUIRING_KINDS, itsREQUIRING_KINDS.toArray, nREQUIRING_KINDS, lREQUIRING_KINDS, cREQUIRING_KINDS, dREQUIRING_KINDS, by rw [iREQUIRING_KINDS]; show 1 ≤ sizeLine; decide, by rw [iREQUIRING_KINDS]; exact (.cons ⟨uREQUIRING_KINDS0, rfl⟩ .nil)⟩
  have vGAP : mg "GAP" = some (.ref xGAP) := PySem.W.mg_of X G aGAP
  have qGAP : ∀ H, SqT K H xGAP ([("gap" : Str)].map V.str) := fun H => .inr ⟨oGAP, itsGAP.toArray, nGAP, lGAP, cGAP, dGAP, by rw [iGAP]; show 1 ≤ sizeLine; decide, by rw [iGAP]; exact (.cons ⟨uGAP0, rfl⟩ .nil)⟩
  have vint : mg "int" = none := PySem.W.mg_none_of X G zint
  have venumerate : mg "enumerate" = none := PySem.W.mg_none_of X G zenumerate
  have vrange : mg "range" = none := PySem.W.mg_none_of X G zrange
  have vlist : mg "list" = none := PySem.W.mg_none_of X G zlist
  have vtuple : mg "tuple" = none := PySem.W.mg_none_of X G ztuple
  have vsorted : mg "sorted" = none := PySem.W.mg_none_of X G zsorted
  have vstr : mg "str" = none := PySem.W.mg_none_of X G zstr
  have vall : mg "all" = none := PySem.W.mg_none_of X G zall
  have visinstance : mg "isinstance" = none := PySem.W.mg_none_of X G zisinstance
  have vbool : mg "bool" = none := PySem.W.mg_none_of X G zbool
  have vlen : mg "len" = none := PySem.W.mg_none_of X G zlen
  have vset : mg "set" = none := PySem.W.mg_none_of X G zset
  have vabs : mg "abs" = none := PySem.W.mg_none_of X G zabs
  have vdict : mg "dict" = none := PySem.W.mg_none_of X G zdict
  have q0Cn : ∀ H, SqT K H t0Cn [] := fun H => .inr ⟨o2Cn, #[], n2Cn, t4Cn, t6Cn, t5Cn, Nat.zero_le _, .nil⟩
  subst t3Cn
  have insCn : C8.InsC K Cn := ⟨⟨pgCn, hdCn, poCn, saCn⟩, haCn, hn, htk, hmCn, kit_self⟩
  have TCn : NsC K mg Cn := ⟨insCn, nCnmembers, PySem.W.mg_of X G aCCn, kit_own ciCn ctCn kLCn, kit_own ciCn ctCn kTCn, notFirst_of kTCn, notFirst_of kLCn, visinstance, vtuple, vsorted, vset, vall, vlen⟩
  have insCp : C8.InsC K Cp := ⟨⟨pgCp, hdCp, poCp, saCp⟩, haCp, hn, htk, hmCp, kit_self⟩
  have TCp : PgC K mg Cp := ⟨insCp, nCp_bodies, nCpnames, nCpplaces, PySem.W.mg_of X G aCCp, kit_own ciCp ctCp kLCp, kit_own ciCp ctCp kTCp, notFirst_of kTCp, notFirst_of kLCp, visinstance, vtuple, vlen⟩
  have insCr : C8.InsC K Cr := ⟨⟨pgCr, hdCr, poCr, saCr⟩, haCr, hn, htk, hmCr, kit_self⟩
  have TCr : RsC K mg Cr := ⟨insCr, nCr_rows, PySem.W.mg_of X G aCCr⟩
  refine dDLaw.law X G hfa (fun _ _ _ _ _ _ s v => .of_eq rfl) fun base _ _ fd FL => ?_
  have eCF : ErC l.prog w K mg base "CallFailed" CF ["self", "name", "path", "place"] (spIni3 CF) := mICF.erC DCF ciCF tICF (PySem.W.mg_of X G aCCF) (fun _ _ _ _ _ _ us hl => match us, hl with | [_, _, _, _], _ => rfl) fun fd F => ok_CallFailed F DCF.oex nCFname nCFpath nCFplace
  have c_is_name : Cal l.prog w K mg base CX0 1 "is_name" ["value"] spIsName := dDIs_name.cal X G (fun _ _ _ _ _ _ us hl => match us, hl with | [_], _ => rfl) fun fd F => ok_is_name F visinstance vstr vlen vall vLONGEST_NAME
  have c__is_step : Cal l.prog w K mg base CX0 2 "_is_step" ["step"] spIsStep := dDIs_step.cal X G (fun _ _ _ _ _ _ us hl => match us, hl with | [_], _ => rfl) fun fd F => ok_is_step F visinstance vtuple vlen vKINDS qKINDS c_is_name
  have c__is_body : Cal l.prog w K mg base CX0 3 "_is_body" ["steps"] (spIsBody K) := dDIs_body.cal X G (fun _ _ _ _ _ _ us hl => match us, hl with | [_], _ => rfl) fun fd F => ok_is_body F vlen vall vMOST_STEPS c__is_step
  have c__checked_bodies : Cal l.prog w K mg base CX0 4 "_checked_bodies" ["procedures"] (spChecked K) := dDChecked_bodies.cal X G (fun _ _ _ _ _ _ us hl => match us, hl with | [_], _ => rfl) fun fd F => ok_checked F venumerate vtuple vMOST_PROCEDURES c_is_name c__is_body
  have c__check_callees : Cal l.prog w K mg base CX0 1 "_check_callees" ["bodies"] (spCallees K) := dDCheck_callees.cal X G (fun _ _ _ _ _ _ us hl => match us, hl with | [_], _ => rfl) fun fd F => ok_callees F venumerate vCALLING_KINDS qCALLING_KINDS
  have FICn : FunD K "__init__" "NameSet.__init__" (defArgs sNameSetInit) (defBody sNameSetInit) (defScope sNameSetInit) [.ref t0Cn] [] fICn _ := ⟨⟨ocCn, odCn, .ref tDCn, kVCn, dcCn, pmCn, anCn, cdCn, cuCn, slCn, rfl, ilCn, icCn, .inr ⟨by simp, tDCn, o1Cn, _, n1Cn, rfl, t1Cn, t2Cn, .cons rfl .nil⟩, .inl rfl⟩, ikCn⟩
  have okICn : FnOk l.prog w K mg base CX0 1 fICn _ ["self", "names"] (spNsInit K Cn) := ok_nsInit FICn TCn
  obtain ⟨ds1Cn, r1Cn, b1Cn⟩ := FICn.binds1 (ps := ["self", "names"]) 2 1 (by simp) rfl fun _ _ _ _ _ _ _ us its hu hi => match us, its, hu, hi with | [_, _], [_], _, _ => ⟨_, rfl, rfl⟩
  obtain ⟨ds0Cn, r0Cn, b0Cn⟩ := FICn.binds1 (ps := ["self", "names"]) 1 0 (by simp) rfl fun _ _ _ _ _ _ _ us its hu hi => match us, its, hu, hi with | [_], [_], _, _ => ⟨_, rfl, rfl⟩
  have mk1Cn : CalC l.prog w K mg base CX0 1 "NameSet" Cn ["self", "names"] (spNsInit K Cn) [] := ⟨⟨fICn, _, ds1Cn, ⟨mkCn, iaCn, iiCn, kcCn⟩, okICn, PySem.W.mg_of X G aCCn, b1Cn, r1Cn⟩⟩
  have mk0Cn : CalC l.prog w K mg base CX0 1 "NameSet" Cn ["self", "names"] (spNsInit K Cn) [.ref t0Cn] := ⟨⟨fICn, _, ds0Cn, ⟨mkCn, iaCn, iiCn, kcCn⟩, okICn, PySem.W.mg_of X G aCCn, b0Cn, r0Cn⟩⟩
  have oCneq : CalM l.prog w K mg base CX0 1 Cn "__eq__" ["self", "other"] (spNsEq K Cn) := mCneq.cal (fun _ _ _ _ _ _ us hl => match us, hl with | [_, _], _ => rfl) fun fd F => ok_nsEq F TCn
  have oCnle : CalM l.prog w K mg base CX0 1 Cn "__le__" ["self", "other"] (spNsLe Cn) := mCnle.cal (fun _ _ _ _ _ _ us hl => match us, hl with | [_, _], _ => rfl) fun fd F => ok_nsLe F TCn
  have oCnor : CalM l.prog w K mg base CX0 3 Cn "__or__" ["self", "other"] (spNsOp Cn gOr) := mCnor.cal (fun _ _ _ _ _ _ us hl => match us, hl with | [_, _], _ => rfl) fun fd F => ok_nsOr F TCn mk1Cn
  have oCncontains : CalM l.prog w K mg base CX0 1 Cn "__contains__" ["self", "name"] (spNsIn Cn) := mCncontains.cal (fun _ _ _ _ _ _ us hl => match us, hl with | [_, _], _ => rfl) fun fd F => ok_nsIn F TCn
  have ON : NsO l.prog w K mg base Cn := ⟨oCneq, oCnle, oCnor, oCncontains, neCn, sfCn⟩
  have c__places : Cal l.prog w K mg base CX0 3 "_places" ["bodies"] (spPlaces K) := dDPlaces.cal X G (fun _ _ _ _ _ _ us hl => match us, hl with | [_], _ => rfl) fun fd F => ok_places F TCn mk1Cn
  have mk1Cp : CalC l.prog w K mg base CX0 5 "Program" Cp ["self", "procedures"] (spPgInit K Cp) [] := mICp.calC mkCp kcCp (PySem.W.mg_of X G aCCp) (fun _ _ _ _ _ _ us hl => match us, hl with | [_, _], _ => rfl) fun fd F => ok_pgInit F TCp c__checked_bodies c__check_callees c__places
  have oCpeq : CalM l.prog w K mg base CX0 2 Cp "__eq__" ["self", "other"] (spPgEq K Cp) := mCpeq.cal (fun _ _ _ _ _ _ us hl => match us, hl with | [_, _], _ => rfl) fun fd F => ok_pgEq F TCp
  have oCpgetitem : CalM l.prog w K mg base CX0 1 Cp "__getitem__" ["self", "name"] (spPgGet K Cp) := mCpgetitem.cal (fun _ _ _ _ _ _ us hl => match us, hl with | [_, _], _ => rfl) fun fd F => ok_pgGet F TCp
  have oCpcontains : CalM l.prog w K mg base CX0 1 Cp "__contains__" ["self", "name"] (spPgHas K Cp) := mCpcontains.cal (fun _ _ _ _ _ _ us hl => match us, hl with | [_, _], _ => rfl) fun fd F => ok_pgHas F TCp
  have oCplen : CalM l.prog w K mg base CX0 1 Cp "__len__" ["self"] (spPgLen K Cp) := mCplen.cal (fun _ _ _ _ _ _ us hl => match us, hl with | [_], _ => rfl) fun fd F => ok_pgLen F TCp
  have O : PgOps l.prog w K mg base Cp := ⟨oCpeq, oCpgetitem, oCpcontains, oCplen, neCp⟩
  have c_is_integer : Cal l.prog w K mg base CX0 1 "is_integer" ["value"] spIsInt := dDIs_integer.cal X G (fun _ _ _ _ _ _ us hl => match us, hl with | [_], _ => rfl) fun fd F => ok_is_integer F visinstance vint vbool
  have c_is_number : Cal l.prog w K mg base CX0 2 "is_number" ["value"] spIsNum := dDIs_number.cal X G (fun _ _ _ _ _ _ us hl => match us, hl with | [_], _ => rfl) fun fd F => ok_is_number F vabs c_is_integer
  have c__is_item : Cal l.prog w K mg base CX0 3 "_is_item" ["item", "count"] (spIsItem K) := dDIs_item.cal X G (fun _ _ _ _ _ _ us hl => match us, hl with | [_, _], _ => rfl) fun fd F => ok_is_item F visinstance vtuple vlen vGAP qGAP c_is_name c_is_integer c_is_number
  have c__is_row : Cal l.prog w K mg base CX0 4 "_is_row" ["row", "count"] (spIsRow K) := dDIs_row.cal X G (fun _ _ _ _ _ _ us hl => match us, hl with | [_, _], _ => rfl) fun fd F => ok_is_row F vlen vall vMOST_ITEMS c__is_item
  have c_check_rows : Cal l.prog w K mg base CX0 5 "check_rows" ["rows"] (spCheckR K) := dDCheck_rows.cal X G (fun _ _ _ _ _ _ us hl => match us, hl with | [_], _ => rfl) fun fd F => ok_check_rows F venumerate vlen vMOST_ROWS c__is_row
  have c__node_indexes : Cal l.prog w K mg base CX0 1 "_node_indexes" ["row"] (spNodes K) := dDNode_indexes.cal X G (fun _ _ _ _ _ _ us hl => match us, hl with | [_], _ => rfl) fun fd F => ok_nodes F
  have c__pointing_row : Cal l.prog w K mg base CX0 1 "_pointing_row" ["row", "targets"] (spPoint K) := dDPointing_row.cal X G (fun _ _ _ _ _ _ us hl => match us, hl with | [_, _], _ => rfl) fun fd F => ok_point F
  have c__finer_classes : Cal l.prog w K mg base CX0 2 "_finer_classes" ["rows", "classes"] (spFiner K) := dDFiner_classes.cal X G (fun _ _ _ _ _ _ us hl => match us, hl with | [_, _], _ => rfl) fun fd F => ok_finer F vtuple vlen c__pointing_row
  have c__classes : Cal l.prog w K mg base CX0 3 "_classes" ["rows"] (spClasses K) := dDClasses.cal X G (fun _ _ _ _ _ _ us hl => match us, hl with | [_], _ => rfl) fun fd F => ok_classes F vlen c__finer_classes
  have c_numbered_rows : Cal l.prog w K mg base CX0 4 "numbered_rows" ["rows", "start"] (spNumbered K) := dDNumbered_rows.cal X G (fun _ _ _ _ _ _ us hl => match us, hl with | [_, _], _ => rfl) fun fd F => ok_numbered F vlen c__classes c__node_indexes c__pointing_row
  have mk1Cr : CalC l.prog w K mg base CX0 6 "Result" Cr ["self", "rows"] (spRsInit K Cr) [] := mICr.calC mkCr kcCr (PySem.W.mg_of X G aCCr) (fun _ _ _ _ _ _ us hl => match us, hl with | [_, _], _ => rfl) fun fd F => ok_rsInit F TCr c_check_rows c_numbered_rows
  have oCrrows : CalM l.prog w K mg base CX0 1 Cr "rows" ["self"] (spRsRows K Cr) := mCrrows.cal (fun _ _ _ _ _ _ us hl => match us, hl with | [_], _ => rfl) fun fd F => ok_rsRows F TCr vlist
  have CRCrfrom_row : ClX.CRead K Cr (.type "type") := ⟨rdCr, gtCr⟩
  have CMCrfrom_row : ClX.CMet K Cr (.type "type") "from_row" pCrfrom_row fCrfrom_row := ⟨cmCrfrom_row, ⟨restCrfrom_row, rcCrfrom_row⟩, fiCrfrom_row⟩
  have CFCrfrom_row : FnR l.prog w K mg base CX0 8 fCrfrom_row (spFromRow K Cr) := by
    have F := fun_mk (x := "from_row") (qual := "Result.from_row") (st := sResultFrom_row) lCrfrom_row cCrfrom_row kCrfrom_row
    have ok : FnOk l.prog w K mg base CX0 8 fCrfrom_row _ ["cls", "rows", "start"] (spFromRow K Cr) := ok_from_row F TCr mk1Cr c_numbered_rows
    exact (ok.raw (F.binds (fun _ _ _ _ _ _ us hl => match us, hl with | [_, _, _], _ => rfl)) .nil).imp fun vs H Q E h => by rw [List.append_nil]; exact h
  have c_check_procedure : Cal l.prog w K mg base CX0 2 "check_procedure" ["program", "name"] (spCheck K Cp) := dDCheck_procedure.cal X G (fun _ _ _ _ _ _ us hl => match us, hl with | [_, _], _ => rfl) fun fd F => ok_check F O
  have c_checked_procedures : Cal l.prog w K mg base CX0 3 "checked_procedures" ["program", "names"] (spCheckeds K Cp Cn) := dDChecked_procedures.cal X G (fun _ _ _ _ _ _ us hl => match us, hl with | [_, _], _ => rfl) fun fd F => ok_checkeds F TCn mk1Cn c_check_procedure
  have c_check_place : Cal l.prog w K mg base CX0 1 "check_place" ["program", "place"] (spCheckPl K Cp) := dDCheck_place.cal X G (fun _ _ _ _ _ _ us hl => match us, hl with | [_, _], _ => rfl) fun fd F => ok_checkpl F TCp
  have c_checked_places : Cal l.prog w K mg base CX0 3 "checked_places" ["program", "places"] (spCheckedPl K Cp Cn) := dDChecked_places.cal X G (fun _ _ _ _ _ _ us hl => match us, hl with | [_, _], _ => rfl) fun fd F => ok_checkedpl F TCn mk1Cn c_check_place
  have c_checked_numbers : Cal l.prog w K mg base CX0 4 "checked_numbers" ["program", "numbers"] (spCheckedNum K Cp) := dDChecked_numbers.cal X G (fun _ _ _ _ _ _ us hl => match us, hl with | [_, _], _ => rfl) fun fd F => ok_checkednum F TCp vlist c_checked_places
  have q0EPaths_from : ∀ H, SqT K H t0EPaths_from [] := fun H => .inr ⟨o2EPaths_from, #[], n2EPaths_from, t4EPaths_from, t6EPaths_from, t5EPaths_from, Nat.zero_le _, .nil⟩
  subst t3EPaths_from
  have FDEPaths_from : FunD K "paths_from" "paths_from" (defArgs sPaths_from) (defBody sPaths_from) (defScope sPaths_from) [.ref t0EPaths_from] [] fEPaths_from _ := ⟨⟨ocEPaths_from, odEPaths_from, .ref tDEPaths_from, kVEPaths_from, dcEPaths_from, pmEPaths_from, anEPaths_from, cdEPaths_from, cuEPaths_from, slEPaths_from, rfl, ilEPaths_from, icEPaths_from, .inr ⟨by simp, tDEPaths_from, o1EPaths_from, _, n1EPaths_from, rfl, t1EPaths_from, t2EPaths_from, .cons rfl .nil⟩, .inl rfl⟩, ikEPaths_from⟩
  have okEPaths_from : FnOk l.prog w K mg base CX0 3 fEPaths_from _ ["program", "names", "kinds", "left_out"] (spPaths K Cp Cn) := ok_paths FDEPaths_from O ON vlen vlist
  obtain ⟨ds0EPaths_from, r0EPaths_from, b0EPaths_from⟩ := FDEPaths_from.binds1 (ps := ["program", "names", "kinds", "left_out"]) 3 0 (by simp) rfl fun _ _ _ _ _ _ _ us its hu hi => match us, its, hu, hi with | [_, _, _], [_], _, _ => ⟨_, rfl, rfl⟩
  have d_paths_from : CalD l.prog w K mg base CX0 3 "paths_from" ["program", "names", "kinds", "left_out"] (spPaths K Cp Cn) [.ref t0EPaths_from] := ⟨⟨fEPaths_from, _, ds0EPaths_from, okEPaths_from, PySem.W.mg_of X G iaEPaths_from, ikEPaths_from, b0EPaths_from, r0EPaths_from⟩⟩
  obtain ⟨ds1EPaths_from, r1EPaths_from, b1EPaths_from⟩ := FDEPaths_from.binds1 (ps := ["program", "names", "kinds", "left_out"]) 4 1 (by simp) rfl fun _ _ _ _ _ _ _ us its hu hi => match us, its, hu, hi with | [_, _, _, _], [_], _, _ => ⟨_, rfl, rfl⟩
  have d1_paths_from : CalD l.prog w K mg base CX0 3 "paths_from" ["program", "names", "kinds", "left_out"] (spPaths K Cp Cn) [] := ⟨⟨fEPaths_from, _, ds1EPaths_from, okEPaths_from, PySem.W.mg_of X G iaEPaths_from, ikEPaths_from, b1EPaths_from, r1EPaths_from⟩⟩
  have c_requiring_paths : Cal l.prog w K mg base CX0 4 "requiring_paths" ["program", "name", "spared"] (spReqP K Cp Cn) := dDRequiring_paths.cal X G (fun _ _ _ _ _ _ us hl => match us, hl with | [_, _, _], _ => rfl) fun fd F => ok_reqp F d1_paths_from vREQUIRING_KINDS qREQUIRING_KINDS
  have c_failure : Cal l.prog w K mg base CX0 5 "failure" ["program", "name", "broken", "spared"] (spFail K Cp Cn) := dDFailure.cal X G (fun _ _ _ _ _ _ us hl => match us, hl with | [_, _, _, _], _ => rfl) fun fd F => ok_failure F O ON c_requiring_paths
  have c__present_nodes : Cal l.prog w K mg base CX0 6 "_present_nodes" ["program", "broken", "spared"] (spPresent K Cp Cn) := dDPresent_nodes.cal X G (fun _ _ _ _ _ _ us hl => match us, hl with | [_, _, _], _ => rfl) fun fd F => ok_present F TCp O ON venumerate vlen vGAP qGAP c_failure
  have c__item : Cal l.prog w K mg base CX0 1 "_item" ["kind", "word", "values", "nodes"] (spItem K) := dDItem.cal X G (fun _ _ _ _ _ _ us hl => match us, hl with | [_, _, _, _], _ => rfl) fun fd F => ok_item F
  have c_rows_of_all : Cal l.prog w K mg base CX0 3 "rows_of_all" ["program", "values", "nodes"] (spRowsAll K Cp) := dDRows_of_all.cal X G (fun _ _ _ _ _ _ us hl => match us, hl with | [_, _, _], _ => rfl) fun fd F => ok_rowsAll F TCp O c__item
  have q0PPlain_result1 : ∀ H, SqT K H t0PPlain_result1 [] := fun H => .inr ⟨o2PPlain_result1, #[], n2PPlain_result1, t4PPlain_result1, t6PPlain_result1, t5PPlain_result1, Nat.zero_le _, .nil⟩
  have q0PPlain_result2 : ∀ H, SqT K H t0PPlain_result2 [] := fun H => .inr ⟨o2PPlain_result2, #[], n2PPlain_result2, t4PPlain_result2, t6PPlain_result2, t5PPlain_result2, Nat.zero_le _, .nil⟩
  have FDPPlain_result : FunD K "plain_result" "plain_result" (defArgs sPlain_result) (defBody sPlain_result) (defScope sPlain_result) [] [(("numbers" : Str), V.non), (("broken" : Str), V.ref t0PPlain_result1), (("spared" : Str), V.ref t0PPlain_result2)] fPPlain_result _ := ⟨⟨ocPPlain_result, odPPlain_result, .none, .ref kDPPlain_result, dcPPlain_result, pmPPlain_result, anPPlain_result, cdPPlain_result, cuPPlain_result, slPPlain_result, rfl, ilPPlain_result, icPPlain_result, .inl ⟨rfl, rfl⟩, .inr ⟨kDPPlain_result, rfl, fun q hq => by
    simp only [List.mem_cons, List.not_mem_nil, or_false] at hq
    rcases hq with rfl | rfl | rfl
    · exact ⟨_, t3PPlain_result0, rfl⟩
    · exact ⟨_, t3PPlain_result1, rfl⟩
    · exact ⟨_, t3PPlain_result2, rfl⟩⟩⟩, ikPPlain_result⟩
  have okPPlain_result : FnOk l.prog w K mg base (L2.CX l.prog w) 9 fPPlain_result _ ["program", "name", "numbers", "broken", "spared"] (spPlain K Cp Cn Cr CF) := ok_plain FDPPlain_result eCF TCr TCp venumerate CRCrfrom_row CMCrfrom_row CFCrfrom_row c_check_procedure c_checked_procedures c_checked_numbers c_checked_places c_failure c__present_nodes c_rows_of_all
  obtain ⟨ds0PPlain_result, r0PPlain_result, b0PPlain_result⟩ := FDPPlain_result.binds0 (ps := ["program", "name", "numbers", "broken", "spared"]) 2 (by simp) rfl fun _ _ _ _ _ _ us ks hu hk => match us, ks, hu, hk with | [_, _], [_, _, _], _, _ => ⟨_, _, _, _, _, _, rfl, rfl, ⟨_, _, _, _, _, _, rfl, rfl, ⟨_, _, _, _, _, _, rfl, rfl, rfl⟩⟩⟩
  have d_plain_result : CalD l.prog w K mg base (L2.CX l.prog w) 9 "plain_result" ["program", "name", "numbers", "broken", "spared"] (spPlain K Cp Cn Cr CF) [.non, .ref t0PPlain_result1, .ref t0PPlain_result2] := ⟨⟨fPPlain_result, _, ds0PPlain_result, okPPlain_result, PySem.W.mg_of X G iaPPlain_result, ikPPlain_result, b0PPlain_result, r0PPlain_result⟩⟩
  obtain ⟨mvPPlain_resultA, kbPPlain_resultA⟩ := FDPPlain_result.kbinds0 (ps := ["program", "name", "numbers", "broken", "spared"]) 2 ["numbers", "broken"] [(("spared" : Str), V.ref t0PPlain_result2)] (fun vs ms zs => vs ++ zs ++ ms) (by simp) (fun q h => by simp only [List.mem_cons, List.not_mem_nil, or_false] at h ⊢; rcases h with h <;> simp [h]) (fun r1 r2 r3 => (r1.append r3).append r2) fun _ _ _ _ _ _ us mv ws hu hm hw => match us, mv, ws, hu, hm, hw with | [_, _], [_], [_, _], _, _, _ => ⟨_, _, _, _, _, _, rfl, rfl, rfl⟩
  have kA_plain_result : CalK l.prog w K mg base (L2.CX l.prog w) 9 "plain_result" ["program", "name", "numbers", "broken", "spared"] (spPlain K Cp Cn Cr CF) 2 ["numbers", "broken"] (fun vs zs => (fun (vs ms zs : List V) => vs ++ zs ++ ms) vs [V.ref t0PPlain_result2] zs) := ⟨⟨fPPlain_result, _, _, okPPlain_result, PySem.W.mg_of X G iaPPlain_result, ikPPlain_result, kbPPlain_resultA⟩⟩
  obtain ⟨mvPPlain_resultB, kbPPlain_resultB⟩ := FDPPlain_result.kbinds0 (ps := ["program", "name", "numbers", "broken", "spared"]) 2 ["numbers"] [(("broken" : Str), V.ref t0PPlain_result1), (("spared" : Str), V.ref t0PPlain_result2)] (fun vs ms zs => vs ++ zs ++ ms) (by simp) (fun q h => by simp only [List.mem_cons, List.not_mem_nil, or_false] at h ⊢; rcases h with h | h <;> simp [h]) (fun r1 r2 r3 => (r1.append r3).append r2) fun _ _ _ _ _ _ us mv ws hu hm hw => match us, mv, ws, hu, hm, hw with | [_, _], [_, _], [_], _, _, _ => ⟨_, _, _, _, _, _, rfl, rfl, ⟨_, _, _, _, _, _, rfl, rfl, rfl⟩⟩
  have kB_plain_result : CalK l.prog w K mg base (L2.CX l.prog w) 9 "plain_result" ["program", "name", "numbers", "broken", "spared"] (spPlain K Cp Cn Cr CF) 2 ["numbers"] (fun vs zs => (fun (vs ms zs : List V) => vs ++ zs ++ ms) vs [V.ref t0PPlain_result1, V.ref t0PPlain_result2] zs) := ⟨⟨fPPlain_result, _, _, okPPlain_result, PySem.W.mg_of X G iaPPlain_result, ikPPlain_result, kbPPlain_resultB⟩⟩
  have c_source : Cal l.prog w K mg base CX0 1 "_law_source" ["_law_script"] (spSource K) := dDSource.cal X G (fun _ _ _ _ _ _ us hl => match us, hl with | [_], _ => rfl) fun fd F => ok_source F vint venumerate
  have c_draw : Cal l.prog w K mg base CX0 1 "_law_draw" ["_law_source_here", "_law_many"] spDraw := dDDraw.cal X G (fun _ _ _ _ _ _ us hl => match us, hl with | [_, _], _ => rfl) fun fd F => ok_draw F vint
  have c_name : Cal l.prog w K mg base CX0 2 "_law_name" ["_law_source_here", "_law_taken"] (spName K) := dDName.cal X G (fun _ _ _ _ _ _ us hl => match us, hl with | [_, _], _ => rfl) fun fd F => ok_name F c_draw vrange
  have c_names : Cal l.prog w K mg base CX0 3 "_law_names" ["_law_source_here", "_law_many"] spNames := dDNames.cal X G (fun _ _ _ _ _ _ us hl => match us, hl with | [_, _], _ => rfl) fun fd F => ok_names F c_name vrange vlist
  have c_copy : Cal l.prog w K mg base CX0 1 "_law_copy" ["_law_procedures"] spCopy := dDCopy.cal X G (fun _ _ _ _ _ _ us hl => match us, hl with | [_], _ => rfl) fun fd F => ok_copy F vlist
  have c_subset : Cal l.prog w K mg base CX0 2 "_law_subset" ["_law_source_here", "_law_row"] (spSubset K) := dDSubset.cal X G (fun _ _ _ _ _ _ us hl => match us, hl with | [_, _], _ => rfl) fun fd F => ok_subset F c_draw
  have c_number : Cal l.prog w K mg base CX0 2 "_law_number" ["_law_source_here"] spLNum := dDNumber.cal X G (fun _ _ _ _ _ _ us hl => match us, hl with | [_], _ => rfl) fun fd F => ok_lnum F c_draw
  have c_numbers : Cal l.prog w K mg base CX0 3 "_law_numbers" ["_law_source_here", "_law_places"] spNumbers := dDNumbers.cal X G (fun _ _ _ _ _ _ us hl => match us, hl with | [_, _], _ => rfl) fun fd F => ok_numbers F c_draw c_number
  have c_body_drawn : Cal l.prog w K mg base CX0 3 "_law_body_drawn" ["_law_source_here", "_law_places"] spBodyD := dDBody_drawn.cal X G (fun _ _ _ _ _ _ us hl => match us, hl with | [_, _], _ => rfl) fun fd F => ok_bodyD F c_draw c_name vrange vlen
  have c_plain_try : Cal l.prog w K mg base CX0 10 "_law_plain_try" ["_law_program", "_law_name_here", "_law_worths", "_law_hurt"] (spTry K Cp Cn) := dDPlain_try.cal X G (fun _ _ _ _ _ _ us hl => match us, hl with | [_, _, _, _], _ => rfl) fun fd F => ok_try F eCF nCFname nCFpath nCFplace TCr oCrrows t4PPlain_result2 t6PPlain_result2 q0PPlain_result2 kA_plain_result
  have c_due : Cal l.prog w K mg base CX0 1 "_law_due" ["_law_name_here", "_law_body", "_law_worths", "_law_hurt"] (spDue K) := dDDue.cal X G (fun _ _ _ _ _ _ us hl => match us, hl with | [_, _, _, _], _ => rfl) fun fd F => ok_due F
  exact ok_law FL TCp TCr mk1Cp c_source c_draw c_names c_body_drawn c_copy c_numbers c_subset c_plain_try c_due oCrrows t4PPlain_result1 t6PPlain_result1 q0PPlain_result1 t4PPlain_result2 t6PPlain_result2 q0PPlain_result2 d_plain_result kB_plain_result vlist vtuple vdict
end Mf
open PySem PySem.W PyProof.Rows
set_option maxRecDepth 100000 in
set_option maxHeartbeats 0 in
theorem PySem.Challenge.cw_midfall_k12_plain_without_calls_holds : PySem.Challenge.rw_midfall_k12_plain_without_calls.Holds := by
  w_on; o_law; k_head; (case hw => w_witness2)
  k_fill
  refine Mf.walk (n := 11) (l := PySem.Challenge.rw_midfall_k12_plain_without_calls) rfl rfl ⟨rfl, by decide, by decide⟩ (fun w h Y => PySem.W.kIn_of Y) ?F
  case F =>
    intro w mg fa h KX G hmg
    refine' Mf.all_mk KX G hmg ?aCCn ?pgCn ?hdCn ?poCn ?saCn ?mkCn ?kcCn ?haCn ?hmCn ?ciCn ?ctCn ?kLCn ?kTCn ?neCn ?sfCn ?nCnmembers ?iaCn ?iiCn ?ilCn ?icCn ?ikCn ?t1Cn ?t2Cn ?t3Cn ?t4Cn ?t5Cn ?t6Cn ?aCneq ?lCneq ?cCneq ?kCneq ?iCneq ?nCneq ?aCnle ?lCnle ?cCnle ?kCnle ?iCnle ?nCnle ?aCnor ?lCnor ?cCnor ?kCnor ?iCnor ?nCnor ?aCncontains ?lCncontains ?cCncontains ?kCncontains ?iCncontains ?nCncontains ?aCCp ?pgCp ?hdCp ?poCp ?saCp ?mkCp ?kcCp ?haCp ?hmCp ?ciCp ?ctCp ?kLCp ?kTCp ?neCp ?sfCp ?nCp_bodies ?nCpnames ?nCpplaces ?aICp ?lICp ?cICp ?kICp ?iICp ?nICp ?aCpeq ?lCpeq ?cCpeq ?kCpeq ?iCpeq ?nCpeq ?aCpgetitem ?lCpgetitem ?cCpgetitem ?kCpgetitem ?iCpgetitem ?nCpgetitem ?aCpcontains ?lCpcontains ?cCpcontains ?kCpcontains ?iCpcontains ?nCpcontains ?aCplen ?lCplen ?cCplen ?kCplen ?iCplen ?nCplen ?aCCr ?pgCr ?hdCr ?poCr ?saCr ?mkCr ?kcCr ?haCr ?hmCr ?ciCr ?ctCr ?kLCr ?kTCr ?neCr ?sfCr ?nCr_rows ?aICr ?lICr ?cICr ?kICr ?iICr ?nICr ?aCrrows ?lCrrows ?cCrrows ?kCrrows ?iCrrows ?nCrrows ?rdCr ?gtCr ?cmCrfrom_row ?rcCrfrom_row ?fiCrfrom_row ?lCrfrom_row ?cCrfrom_row ?kCrfrom_row ?aCCF ?lCCF ?saCF ?tyCF ?kcCF ?hgCF ?hkCF ?haCF ?hdCF ?ciCF ?nCFname ?nCFpath ?nCFplace ?aICF ?lICF ?cICF ?kICF ?iICF ?nICF ?tICF ?hn ?htk ?aDIs_name ?lDIs_name ?cDIs_name ?kDIs_name ?aDIs_step ?lDIs_step ?cDIs_step ?kDIs_step ?aDIs_body ?lDIs_body ?cDIs_body ?kDIs_body ?aDChecked_bodies ?lDChecked_bodies ?cDChecked_bodies ?kDChecked_bodies ?aDCheck_callees ?lDCheck_callees ?cDCheck_callees ?kDCheck_callees ?aDPlaces ?lDPlaces ?cDPlaces ?kDPlaces ?aDIs_integer ?lDIs_integer ?cDIs_integer ?kDIs_integer ?aDIs_number ?lDIs_number ?cDIs_number ?kDIs_number ?aDIs_item ?lDIs_item ?cDIs_item ?kDIs_item ?aDIs_row ?lDIs_row ?cDIs_row ?kDIs_row ?aDCheck_rows ?lDCheck_rows ?cDCheck_rows ?kDCheck_rows ?aDNode_indexes ?lDNode_indexes ?cDNode_indexes ?kDNode_indexes ?aDPointing_row ?lDPointing_row ?cDPointing_row ?kDPointing_row ?aDFiner_classes ?lDFiner_classes ?cDFiner_classes ?kDFiner_classes ?aDClasses ?lDClasses ?cDClasses ?kDClasses ?aDNumbered_rows ?lDNumbered_rows ?cDNumbered_rows ?kDNumbered_rows ?aDCheck_procedure ?lDCheck_procedure ?cDCheck_procedure ?kDCheck_procedure ?aDChecked_procedures ?lDChecked_procedures ?cDChecked_procedures ?kDChecked_procedures ?aDCheck_place ?lDCheck_place ?cDCheck_place ?kDCheck_place ?aDChecked_places ?lDChecked_places ?cDChecked_places ?kDChecked_places ?aDChecked_numbers ?lDChecked_numbers ?cDChecked_numbers ?kDChecked_numbers ?aDRequiring_paths ?lDRequiring_paths ?cDRequiring_paths ?kDRequiring_paths ?aDFailure ?lDFailure ?cDFailure ?kDFailure ?aDPresent_nodes ?lDPresent_nodes ?cDPresent_nodes ?kDPresent_nodes ?aDItem ?lDItem ?cDItem ?kDItem ?aDRows_of_all ?lDRows_of_all ?cDRows_of_all ?kDRows_of_all ?aDSource ?lDSource ?cDSource ?kDSource ?aDDraw ?lDDraw ?cDDraw ?kDDraw ?aDName ?lDName ?cDName ?kDName ?aDNames ?lDNames ?cDNames ?kDNames ?aDCopy ?lDCopy ?cDCopy ?kDCopy ?aDSubset ?lDSubset ?cDSubset ?kDSubset ?aDNumber ?lDNumber ?cDNumber ?kDNumber ?aDNumbers ?lDNumbers ?cDNumbers ?kDNumbers ?aDBody_drawn ?lDBody_drawn ?cDBody_drawn ?kDBody_drawn ?aDPlain_try ?lDPlain_try ?cDPlain_try ?kDPlain_try ?aDDue ?lDDue ?cDDue ?kDDue ?aDLaw ?lDLaw ?cDLaw ?kDLaw ?iaEPaths_from ?ilEPaths_from ?icEPaths_from ?ikEPaths_from ?t1EPaths_from ?t2EPaths_from ?t3EPaths_from ?t4EPaths_from ?t5EPaths_from ?t6EPaths_from ?iaPPlain_result ?ilPPlain_result ?icPPlain_result ?ikPPlain_result ?t3PPlain_result0 ?t3PPlain_result1 ?t4PPlain_result1 ?t5PPlain_result1 ?t6PPlain_result1 ?t3PPlain_result2 ?t4PPlain_result2 ?t5PPlain_result2 ?t6PPlain_result2 ?aLONGEST_NAME ?aMOST_STEPS ?aMOST_PROCEDURES ?aMOST_ROWS ?aMOST_ITEMS ?aKINDS ?lKINDS ?dKINDS ?iKINDS ?cKINDS ?aCALLING_KINDS ?lCALLING_KINDS ?dCALLING_KINDS ?iCALLING_KINDS ?cCALLING_KINDS ?aREQUIRING_KINDS ?lREQUIRING_KINDS ?dREQUIRING_KINDS ?iREQUIRING_KINDS ?cREQUIRING_KINDS ?aGAP ?lGAP ?dGAP ?iGAP ?cGAP ?zint ?zenumerate ?zrange ?zlist ?ztuple ?zsorted ?zstr ?zall ?zisinstance ?zbool ?zlen ?zset ?zabs ?zdict
    (case aCCn => k_is)
    (case pgCn => k_is)
    (case hdCn => k_is)
    (case poCn => k_is)
    (case saCn => k_is)
    (case mkCn => k_is)
    (case kcCn => k_is)
    (case haCn => k_is)
    (case hmCn => k_is)
    (case ciCn => k_is)
    (case ctCn => k_is)
    (case kLCn => k_is)
    (case kTCn => k_is)
    (case neCn => k_is)
    (case sfCn => k_is)
    (case nCnmembers => k_is)
    (case iaCn => k_is)
    (case iiCn => k_is)
    (case ilCn => k_is)
    (case icCn => k_is)
    (case ikCn => k_is)
    (case t1Cn => k_is)
    (case t2Cn => rfl)
    (case t3Cn => rfl)
    (case t4Cn => k_is)
    (case t5Cn => rfl)
    (case t6Cn => rfl)
    (case aCneq => k_is)
    (case lCneq => k_is)
    (case cCneq => k_is)
    (case kCneq => k_is)
    (case iCneq => k_is)
    (case nCneq => k_is)
    (case aCnle => k_is)
    (case lCnle => k_is)
    (case cCnle => k_is)
    (case kCnle => k_is)
    (case iCnle => k_is)
    (case nCnle => k_is)
    (case aCnor => k_is)
    (case lCnor => k_is)
    (case cCnor => k_is)
    (case kCnor => k_is)
    (case iCnor => k_is)
    (case nCnor => k_is)
    (case aCncontains => k_is)
    (case lCncontains => k_is)
    (case cCncontains => k_is)
    (case kCncontains => k_is)
    (case iCncontains => k_is)
    (case nCncontains => k_is)
    (case aCCp => k_is)
    (case pgCp => k_is)
    (case hdCp => k_is)
    (case poCp => k_is)
    (case saCp => k_is)
    (case mkCp => k_is)
    (case kcCp => k_is)
    (case haCp => k_is)
    (case hmCp => k_is)
    (case ciCp => k_is)
    (case ctCp => k_is)
    (case kLCp => k_is)
    (case kTCp => k_is)
    (case neCp => k_is)
    (case sfCp => k_is)
    (case nCp_bodies => k_is)
    (case nCpnames => k_is)
    (case nCpplaces => k_is)
    (case aICp => k_is)
    (case lICp => k_is)
    (case cICp => k_is)
    (case kICp => k_is)
    (case iICp => k_is)
    (case nICp => k_is)
    (case aCpeq => k_is)
    (case lCpeq => k_is)
    (case cCpeq => k_is)
    (case kCpeq => k_is)
    (case iCpeq => k_is)
    (case nCpeq => k_is)
    (case aCpgetitem => k_is)
    (case lCpgetitem => k_is)
    (case cCpgetitem => k_is)
    (case kCpgetitem => k_is)
    (case iCpgetitem => k_is)
    (case nCpgetitem => k_is)
    (case aCpcontains => k_is)
    (case lCpcontains => k_is)
    (case cCpcontains => k_is)
    (case kCpcontains => k_is)
    (case iCpcontains => k_is)
    (case nCpcontains => k_is)
    (case aCplen => k_is)
    (case lCplen => k_is)
    (case cCplen => k_is)
    (case kCplen => k_is)
    (case iCplen => k_is)
    (case nCplen => k_is)
    (case aCCr => k_is)
    (case pgCr => k_is)
    (case hdCr => k_is)
    (case poCr => k_is)
    (case saCr => k_is)
    (case mkCr => k_is)
    (case kcCr => k_is)
    (case haCr => k_is)
    (case hmCr => k_is)
    (case ciCr => k_is)
    (case ctCr => k_is)
    (case kLCr => k_is)
    (case kTCr => k_is)
    (case neCr => k_is)
    (case sfCr => k_is)
    (case nCr_rows => k_is)
    (case aICr => k_is)
    (case lICr => k_is)
    (case cICr => k_is)
    (case kICr => k_is)
    (case iICr => k_is)
    (case nICr => k_is)
    (case aCrrows => k_is)
    (case lCrrows => k_is)
    (case cCrrows => k_is)
    (case kCrrows => k_is)
    (case iCrrows => k_is)
    (case nCrrows => k_is)
    (case rdCr => k_is)
    (case gtCr => k_is)
    (case cmCrfrom_row => k_is)
    (case rcCrfrom_row => k_is)
    (case fiCrfrom_row => k_is)
    (case lCrfrom_row => k_is)
    (case cCrfrom_row => k_is)
    (case kCrfrom_row => k_is)
    (case aCCF => k_is)
    (case lCCF => k_is)
    (case saCF => k_is)
    (case tyCF => k_is)
    (case kcCF => k_is)
    (case hgCF => k_is)
    (case hkCF => k_is)
    (case haCF => k_is)
    (case hdCF => k_is)
    (case ciCF => k_is)
    (case nCFname => k_is)
    (case nCFpath => k_is)
    (case nCFplace => k_is)
    (case aICF => k_is)
    (case lICF => k_is)
    (case cICF => k_is)
    (case kICF => k_is)
    (case iICF => k_is)
    (case nICF => k_is)
    (case tICF => k_is)
    (case hn => k_is)
    (case htk => k_is)
    (case aDIs_name => k_is)
    (case lDIs_name => k_is)
    (case cDIs_name => k_is)
    (case kDIs_name => k_is)
    (case aDIs_step => k_is)
    (case lDIs_step => k_is)
    (case cDIs_step => k_is)
    (case kDIs_step => k_is)
    (case aDIs_body => k_is)
    (case lDIs_body => k_is)
    (case cDIs_body => k_is)
    (case kDIs_body => k_is)
    (case aDChecked_bodies => k_is)
    (case lDChecked_bodies => k_is)
    (case cDChecked_bodies => k_is)
    (case kDChecked_bodies => k_is)
    (case aDCheck_callees => k_is)
    (case lDCheck_callees => k_is)
    (case cDCheck_callees => k_is)
    (case kDCheck_callees => k_is)
    (case aDPlaces => k_is)
    (case lDPlaces => k_is)
    (case cDPlaces => k_is)
    (case kDPlaces => k_is)
    (case aDIs_integer => k_is)
    (case lDIs_integer => k_is)
    (case cDIs_integer => k_is)
    (case kDIs_integer => k_is)
    (case aDIs_number => k_is)
    (case lDIs_number => k_is)
    (case cDIs_number => k_is)
    (case kDIs_number => k_is)
    (case aDIs_item => k_is)
    (case lDIs_item => k_is)
    (case cDIs_item => k_is)
    (case kDIs_item => k_is)
    (case aDIs_row => k_is)
    (case lDIs_row => k_is)
    (case cDIs_row => k_is)
    (case kDIs_row => k_is)
    (case aDCheck_rows => k_is)
    (case lDCheck_rows => k_is)
    (case cDCheck_rows => k_is)
    (case kDCheck_rows => k_is)
    (case aDNode_indexes => k_is)
    (case lDNode_indexes => k_is)
    (case cDNode_indexes => k_is)
    (case kDNode_indexes => k_is)
    (case aDPointing_row => k_is)
    (case lDPointing_row => k_is)
    (case cDPointing_row => k_is)
    (case kDPointing_row => k_is)
    (case aDFiner_classes => k_is)
    (case lDFiner_classes => k_is)
    (case cDFiner_classes => k_is)
    (case kDFiner_classes => k_is)
    (case aDClasses => k_is)
    (case lDClasses => k_is)
    (case cDClasses => k_is)
    (case kDClasses => k_is)
    (case aDNumbered_rows => k_is)
    (case lDNumbered_rows => k_is)
    (case cDNumbered_rows => k_is)
    (case kDNumbered_rows => k_is)
    (case aDCheck_procedure => k_is)
    (case lDCheck_procedure => k_is)
    (case cDCheck_procedure => k_is)
    (case kDCheck_procedure => k_is)
    (case aDChecked_procedures => k_is)
    (case lDChecked_procedures => k_is)
    (case cDChecked_procedures => k_is)
    (case kDChecked_procedures => k_is)
    (case aDCheck_place => k_is)
    (case lDCheck_place => k_is)
    (case cDCheck_place => k_is)
    (case kDCheck_place => k_is)
    (case aDChecked_places => k_is)
    (case lDChecked_places => k_is)
    (case cDChecked_places => k_is)
    (case kDChecked_places => k_is)
    (case aDChecked_numbers => k_is)
    (case lDChecked_numbers => k_is)
    (case cDChecked_numbers => k_is)
    (case kDChecked_numbers => k_is)
    (case aDRequiring_paths => k_is)
    (case lDRequiring_paths => k_is)
    (case cDRequiring_paths => k_is)
    (case kDRequiring_paths => k_is)
    (case aDFailure => k_is)
    (case lDFailure => k_is)
    (case cDFailure => k_is)
    (case kDFailure => k_is)
    (case aDPresent_nodes => k_is)
    (case lDPresent_nodes => k_is)
    (case cDPresent_nodes => k_is)
    (case kDPresent_nodes => k_is)
    (case aDItem => k_is)
    (case lDItem => k_is)
    (case cDItem => k_is)
    (case kDItem => k_is)
    (case aDRows_of_all => k_is)
    (case lDRows_of_all => k_is)
    (case cDRows_of_all => k_is)
    (case kDRows_of_all => k_is)
    (case aDSource => k_is)
    (case lDSource => k_is)
    (case cDSource => k_is)
    (case kDSource => k_is)
    (case aDDraw => k_is)
    (case lDDraw => k_is)
    (case cDDraw => k_is)
    (case kDDraw => k_is)
    (case aDName => k_is)
    (case lDName => k_is)
    (case cDName => k_is)
    (case kDName => k_is)
    (case aDNames => k_is)
    (case lDNames => k_is)
    (case cDNames => k_is)
    (case kDNames => k_is)
    (case aDCopy => k_is)
    (case lDCopy => k_is)
    (case cDCopy => k_is)
    (case kDCopy => k_is)
    (case aDSubset => k_is)
    (case lDSubset => k_is)
    (case cDSubset => k_is)
    (case kDSubset => k_is)
    (case aDNumber => k_is)
    (case lDNumber => k_is)
    (case cDNumber => k_is)
    (case kDNumber => k_is)
    (case aDNumbers => k_is)
    (case lDNumbers => k_is)
    (case cDNumbers => k_is)
    (case kDNumbers => k_is)
    (case aDBody_drawn => k_is)
    (case lDBody_drawn => k_is)
    (case cDBody_drawn => k_is)
    (case kDBody_drawn => k_is)
    (case aDPlain_try => k_is)
    (case lDPlain_try => k_is)
    (case cDPlain_try => k_is)
    (case kDPlain_try => k_is)
    (case aDDue => k_is)
    (case lDDue => k_is)
    (case cDDue => k_is)
    (case kDDue => k_is)
    (case aDLaw => k_is)
    (case lDLaw => k_is)
    (case cDLaw => k_is)
    (case kDLaw => k_is)
    (case iaEPaths_from => k_is)
    (case ilEPaths_from => k_is)
    (case icEPaths_from => k_is)
    (case ikEPaths_from => k_is)
    (case t1EPaths_from => k_is)
    (case t2EPaths_from => rfl)
    (case t3EPaths_from => rfl)
    (case t4EPaths_from => k_is)
    (case t5EPaths_from => rfl)
    (case t6EPaths_from => rfl)
    (case iaPPlain_result => k_is)
    (case ilPPlain_result => k_is)
    (case icPPlain_result => k_is)
    (case ikPPlain_result => k_is)
    (case t3PPlain_result0 => k_is)
    (case t3PPlain_result1 => k_is)
    (case t4PPlain_result1 => k_is)
    (case t5PPlain_result1 => rfl)
    (case t6PPlain_result1 => rfl)
    (case t3PPlain_result2 => k_is)
    (case t4PPlain_result2 => k_is)
    (case t5PPlain_result2 => rfl)
    (case t6PPlain_result2 => rfl)
    (case aLONGEST_NAME => k_is)
    (case aMOST_STEPS => k_is)
    (case aMOST_PROCEDURES => k_is)
    (case aMOST_ROWS => k_is)
    (case aMOST_ITEMS => k_is)
    (case aKINDS => k_is)
    (case lKINDS => k_is)
    (case dKINDS => rfl)
    (case iKINDS => rfl)
    (case cKINDS => rfl)
    (case aCALLING_KINDS => k_is)
    (case lCALLING_KINDS => k_is)
    (case dCALLING_KINDS => rfl)
    (case iCALLING_KINDS => rfl)
    (case cCALLING_KINDS => rfl)
    (case aREQUIRING_KINDS => k_is)
    (case lREQUIRING_KINDS => k_is)
    (case dREQUIRING_KINDS => rfl)
    (case iREQUIRING_KINDS => rfl)
    (case cREQUIRING_KINDS => rfl)
    (case aGAP => k_is)
    (case lGAP => k_is)
    (case dGAP => rfl)
    (case iGAP => rfl)
    (case cGAP => rfl)
    (case zint => k_is)
    (case zenumerate => k_is)
    (case zrange => k_is)
    (case zlist => k_is)
    (case ztuple => k_is)
    (case zsorted => k_is)
    (case zstr => k_is)
    (case zall => k_is)
    (case zisinstance => k_is)
    (case zbool => k_is)
    (case zlen => k_is)
    (case zset => k_is)
    (case zabs => k_is)
    (case zdict => k_is)
