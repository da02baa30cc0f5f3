import PyProof.Rows.All
import Wide.All
import OpenK.AllK
import Wide.FinOn
import HandS.ForExc
import HandS.ForMost
import HandS.IsInst
import HandS.Wide
import HandS.Walk
import HandS.TupAny
import HandS.Defaults
import HandS.SlotsOwn
import HandS.Codes
import HandS.RaiseMore
import PyProof.InstEq
import HandS.Set
import HandS.More
import HandS.SetTxt0
import HandS.SetFor
import PyProof.Rows.SortShellAny
import HandS.Iter
import KE.GoesEnumKw
import KE.GoesMore
import PyProof.Draws
import KE.KDictWalk
import HandS.Dict
import HandS.Small
import PyProof.ListRange
import PyProof.CollectWalk
import PyProof.TupleCall
import KE.KDictList
import KE.KEqDict
import HandS.Base
import HandS.Call
import HandS.List
import PyProof.TupleOfSeq
import HandS.DictComp
import HandS.Conv
import HandS.Flow
import HandS.Words
import HandS.Deep
import HandS.MakeKwOnly
import PyProof.P3In
import HandS.ExcInit
import HandS.ExcValue
import HandS.ExcIs
import HandS.ExcField
import HandS.ExcOwn
import HandS.GenList
import HandS.GenYield
import KE.KeyNested
import KE.KDictDisplayH
import PyProof.Rows.TupDisplay
import HandS.TupLen
import HandS.DeepEq
import PySem.Challenge.RW_midfall_k22_whole_insertion
set_option Elab.async false
set_option maxRecDepth 100000
/-! Heaps with a source of draws; calls by one fact; texts that are names. -/
namespace Mf
open PySem L2

/-! ### heaps -/
/-- all that was tracked but what stands at a is as it was -/
def Kp (a : Addr) (H H' : Hp) : Prop := ∀ b o, b ≠ a → H b = some o → H' b = some o
theorem Kp.refl {a : Addr} {H : Hp} : Kp a H H := fun _ _ _ h => h
theorem Kp.trans {a : Addr} {H H1 H2 : Hp} (x : Kp a H H1) (y : Kp a H1 H2) : Kp a H H2 := fun b o n h => y b o n (x b o n h)
theorem Kp.same {a : Addr} {H H' : Hp} (x : Same H H') : Kp a H H' := fun b o _ h => x b o h
theorem Kp.then {a : Addr} {H H1 H2 : Hp} (x : Kp a H H1) (y : Same H1 H2) : Kp a H H2 := x.trans (.same y)
theorem Kp.new {a p : Addr} {H : Hp} {o : HO} (h : H p = none) : Kp a H (upd H p o) := fun b u _ e => by rw [upd_ne (ne_of_none e h)]; exact e
theorem Kp.put {a : Addr} {H H1 : Hp} {o : HO} (x : Kp a H H1) : Kp a H (upd H1 a o) := fun b u n e => by rw [upd_ne n]; exact x b u n e
/-- p was not there at H: it may change -/
theorem Kp.mut {a p : Addr} {H H1 : Hp} {o : HO} (x : Kp a H H1) (h : H p = none) : Kp a H (upd H1 p o) := fun b u n e => by rw [upd_ne (ne_of_none e h)]; exact x b u n e
theorem Kp.lst {K : PySem.W.Frag} {a t : Addr} {H H' : Hp} {xs : List V} (x : Kp a H H') (n : t ≠ a) (h : SqL K H t xs) : SqL K H' t xs := by
  rcases h with (h | ⟨o, h⟩) | h
  · exact .inl (.inl (x _ _ n h))
  · exact .inl (.inr ⟨o, x _ _ n h⟩)
  · exact .inr h
theorem Kp.tup {K : PySem.W.Frag} {a t : Addr} {H H' : Hp} {xs : List V} (x : Kp a H H') (n : t ≠ a) (h : SqT K H t xs) : SqT K H' t xs := by
  rcases h with (h | ⟨o, h⟩) | h
  · exact .inl (.inl (x _ _ n h))
  · exact .inl (.inr ⟨o, x _ _ n h⟩)
  · exact .inr h
theorem _root_.L2.Same.new {p : Addr} {H : Hp} {o : HO} (h : H p = none) : Same H (upd H p o) := fun b u e => by rw [upd_ne (ne_of_none e h)]; exact e
theorem _root_.L2.Same.mut {p : Addr} {H H1 : Hp} {o : HO} (x : Same H H1) (h : H p = none) : Same H (upd H1 p o) := fun b u e => by rw [upd_ne (ne_of_none e h)]; exact x b u e
theorem _root_.L2.Same.tup {K : PySem.W.Frag} {t : Addr} {H H' : Hp} {xs : List V} (x : Same H H') (h : SqT K H t xs) : SqT K H' t xs := by
  rcases h with (h | ⟨o, h⟩) | h
  · exact .inl (.inl (x _ _ h))
  · exact .inl (.inr ⟨o, x _ _ h⟩)
  · exact .inr h
theorem ne_none {H : Hp} {p a : Addr} {o : HO} (h : H p = none) (h' : H a = some o) : p ≠ a := fun e => by rw [e, h'] at h; cases h

/-! ### the source of draws -/
/-- at a: a source that has n draws left, and more -/
def Src (H : Hp) (a : Addr) (n : Nat) : Prop := ∃ g s c : Int, H a = some (.lst [.int g, .int s, .int c]) ∧ 0 ≤ s ∧ s < 2147483647 ∧ 0 ≤ c ∧ c + n ≤ 1099511627776
theorem Src.mono {H : Hp} {a : Addr} {n m : Nat} (x : Src H a n) (h : m ≤ n) : Src H a m := let ⟨g, s, c, e, a1, a2, a3, a4⟩ := x; ⟨g, s, c, e, a1, a2, a3, by omega⟩
theorem Src.same {H H' : Hp} {a : Addr} {n : Nat} (x : Src H a n) (h : Same H H') : Src H' a n := let ⟨g, s, c, e, r⟩ := x; ⟨g, s, c, h _ _ e, r⟩
theorem Src.ne {H : Hp} {a p : Addr} {n : Nat} (x : Src H a n) (h : H p = none) : p ≠ a := let ⟨_, _, _, e, _⟩ := x; ne_none h e
theorem Src.new {H : Hp} {a p : Addr} {n : Nat} {o : HO} (x : Src H a n) (h : H p = none) : Src (upd H p o) a n := x.same (Same.new h)
theorem Src.put {H : Hp} {a p : Addr} {n : Nat} {o : HO} (x : Src H a n) (h : p ≠ a) : Src (upd H p o) a n := let ⟨g, s, c, e, r⟩ := x; ⟨g, s, c, by rw [upd_ne (Ne.symm h)]; exact e, r⟩

/-! ### a def that is called by its name: one fact -/
structure Cal (P : Program) (w : World) (K : PySem.W.Frag) (mg : Str → Option Value) (base : Heap) (CX : CXT) (k : Nat) (x : Str) (ps : List Str) (sp : Sp) : Prop where
  ex : ∃ (f : Addr) (fd : FuncData), FnOk P w K mg base CX k f fd ps sp ∧ mg x = some (.ref f) ∧ PySem.W.keepIn K (.ref f) = true ∧ Binds K fd ps []
theorem pe_cal {X : Cx} {CX : CXT} {k : Nat} {x : Str} {ps : List Str} {sp : Sp} {E : XK} {e : Expr} {es : List Expr} {t : TA} {p pos : Pos} (c : Cal X.prog X.w X.K X.mg X.base CX k x ps sp) (hr : Room k X.A) (hx : Passes CX X E) (ha : PA X (e :: es) t) (hg : Gl X x := by rfl)
    (hdb : (x == ("__debug__" : Str)) = false := by decide) (he : starEach (e :: es) X.env = (false, eval e X.env) :: starEach es X.env := by rfl) (hpl : (backTo pos (starEach es X.env)).any (·.1) = false := by rfl) :
    PE X (.Call (.Name x p) (e :: es) [] pos) (tCall sp [] E t) := by
  obtain ⟨f, fd, F, m, kp, b⟩ := c.ex
  exact pe_call F hr hg m kp b .nil hx ha hdb he hpl
theorem Cal.mono {P : Program} {w : World} {K : PySem.W.Frag} {mg : Str → Option Value} {base : Heap} {CX : CXT} {k j : Nat} {x : Str} {ps : List Str} {sp : Sp} (c : Cal P w K mg base CX k x ps sp) (h : k ≤ j) : Cal P w K mg base CX j x ps sp :=
  let ⟨f, fd, F, m, kp, b⟩ := c.ex
  ⟨⟨f, fd, F.mono h, m, kp, b⟩⟩

/-! ### names -/
def Low (c : Nat) : Prop := 97 ≤ c ∧ c ≤ 122
def IsName (z : Str) : Prop := 1 ≤ z.cps.size ∧ z.cps.size ≤ 8 ∧ ∀ c ∈ z.cps.toList, Low c
instance (z : Str) : Decidable (IsName z) := by unfold IsName Low; infer_instance
theorem IsName.len {z : Str} (h : IsName z) : z.length ≤ 8 := h.2.1

theorem alpha_at {i : Int} (h0 : 0 ≤ i) (h : i < 26) : ∃ c, atI ("abcdefghijklmnopqrstuvwxyz" : Str).cps.toList i = some c ∧ Low c := by
  obtain ⟨n, rfl⟩ := Int.eq_ofNat_of_zero_le h0
  have e : ∀ n : Fin 26, atI ("abcdefghijklmnopqrstuvwxyz" : Str).cps.toList ((n.val : Nat) : Int) = some (97 + n.val) := by decide +kernel
  exact ⟨97 + n, e ⟨n, by omega⟩, by unfold Low; omega⟩

theorem atI_mem {α : Type} {xs : List α} {v : Int} (h0 : 0 ≤ v) (h : v < xs.length) : ∃ x ∈ xs, atI xs v = some x := by
  obtain ⟨n, rfl⟩ := Int.eq_ofNat_of_zero_le h0
  have hn : n < xs.length := by omega
  refine ⟨xs[n], List.getElem_mem hn, ?_⟩
  exact atI_nat (List.getElem?_eq_getElem hn)
theorem inV_str {z : Str} {zs : List Str} : inV (.str z) (zs.map V.str) = decide (z ∈ zs) := by
  unfold inV
  induction zs with
  | nil => rfl
  | cons y ys ih =>
    rw [List.map_cons, List.any_cons, ih]
    show ((y == z) || _) = _
    by_cases h : y = z
    · subst h; simp
    · have h' : ¬ z = y := fun e => h e.symm
      simp [h, h']
theorem tl_inj {x y : Str} (h : x.cps.toList = y.cps.toList) : x = y := by
  cases x; cases y
  simp only [Str.mk.injEq]
  exact Array.toList_inj.mp h
theorem join_nil (ys : List Str) : (Txt.join ("" : Str) ys).cps.toList = (ys.map fun y => y.cps.toList).flatten := by
  rw [TL.join_eq, show (Str.join ("" : Str) ys).cps.toList = TL.tl (Str.join ("" : Str) ys) from rfl, TL.tl_join]
  show TL.joinL [] (ys.map TL.tl) = _
  generalize ys.map TL.tl = l
  induction l with
  | nil => rfl
  | cons p r ih =>
    cases r with
    | nil => simp [TL.joinL]
    | cons q r => show p ++ ([] ++ TL.joinL [] (q :: r)) = _; rw [ih]; simp
theorem join_signs (cs : List Nat) : Txt.join ("" : Str) (cs.map fun c => (⟨#[c]⟩ : Str)) = ⟨cs.toArray⟩ := by
  refine tl_inj ?_
  rw [join_nil, List.map_map]
  show (cs.map fun c => [c]).flatten = cs
  induction cs with
  | nil => rfl
  | cons c cs ih => rw [List.map_cons, List.flatten_cons, ih]; rfl
theorem str_add (x y : Str) : (x ++ y).cps.toList = x.cps.toList ++ y.cps.toList := TL.tl_append x y
theorem len_tl (z : Str) : z.length = z.cps.toList.length := by show z.cps.size = _; rw [Array.length_toList]

/-! ### rules whose reading names the written part (for comprehensions' blocks) -/
section
variable (K : PySem.W.Frag) {X : Cx}
theorem ixl (h : X.K = K := by rfl) : IxR X (rIxL K) := h ▸ ix_list
theorem ixt (h : X.K = K := by rfl) : IxR X (rIxT K) := h ▸ ix_tup
theorem oin (h : X.K = K := by rfl) : OpR X (compareOp .In) (rIn K false) := h ▸ op_in_seq
theorem nin (h : X.K = K := by rfl) : OpR X (compareOp .NotIn) (rIn K true) := h ▸ op_notIn_seq
def rLenK : List V → Hp → VK → Prop := fun xs H Q => ∃ p ys, xs = [.ref p] ∧ (SqL K H p ys ∨ SqT K H p ys) ∧ Q (.int (ys.length : Nat)) H
theorem k_len (h : X.K = K := by rfl) : CallR X (.builtin "len") (rLenK K) := h ▸ call_len_seq
def rListK : List V → Hp → VK → Prop := fun xs H Q => ∃ p ys, xs = [.ref p] ∧ (SqL K H p ys ∨ SqT K H p ys) ∧ ∀ l, H l = none → Q (.ref l) (upd H l (.lst ys))
theorem k_list (h : X.K = K := by rfl) : CallR X (.type "list") (rListK K) := h ▸ call_list_of
def rTupK : List V → Hp → VK → Prop := fun xs H Q => ∃ p ys, xs = [.ref p] ∧ ((SqL K H p ys ∧ ∀ l, H l = none → Q (.ref l) (upd H l (.tup ys))) ∨ (SqT K H p ys ∧ Q (.ref p) H))
theorem k_tuple (h : X.K = K := by rfl) : CallR X (.type "tuple") (rTupK K) := h ▸ call_tuple_of
theorem k_isi (h : X.K = K := by rfl) : CallR X (.builtin "isinstance") (rIsi K) := h ▸ call_isi
theorem k_all (hc : X.calm = true := by rfl) (h : X.K = K := by rfl) : CallR X (.builtin "all") (rAll K) := h ▸ cr_all hc
theorem k_any (hc : X.calm = true := by rfl) (h : X.K = K := by rfl) : CallR X (.builtin "any") (rAny K) := h ▸ cr_any hc
theorem k_sortedS (h : X.K = K := by rfl) : CallR X (.builtin "sorted") (rSortedS K) := h ▸ cr_sortedS
theorem eqD {k : Nat} (hr : Room k X.A) (h : X.K = K := by rfl) : OpR X (compareOp .Eq) (rEqD K) := h ▸ op_eqD hr.units
theorem neD {k : Nat} (hr : Room k X.A) (h : X.K = K := by rfl) : OpR X (compareOp .NotEq) (rNeD K) := h ▸ op_neD hr.units
theorem fldK {e : Expr} {ta : TE} {f : Str} {pos : Pos} (he : PE X e ta) (hb : attributeBase e f X.env (eval e X.env) = eval e X.env := by rfl) (h : X.K = K := by rfl) : PE X (.Attribute e f pos) (tFld K ta f) := h ▸ pe_fld he hb
end
theorem yes_then {σ : L2.St} {H : Hp} {A B : Hp → Prop} (h : A H) : tYes σ H (fun b H3 => if b = true then A H3 else B H3) := by
  show (if true = true then A H else B H)
  rw [if_pos rfl]
  exact h
end Mf
/-! Operators of own classes (dunder methods that are plain defs), over the hand layer. -/
namespace Mf
open PySem PySem.Spec PyProof.Rows L2

section
variable {X : Cx} {CX : CXT} {k : Nat} {f C a dx : Addr} {fd : FuncData} {ps : List Str} {sp : Sp} {E : XK} {ds : List Value} {dvs : List V} {pins : List (Addr × Obj)} {σ : L2.St} {H : Hp} {s : Shared} {fs : List (Str × V)}

theorem Inv.inst (I : Inv X pins σ H s) (e : H a = some (.ins C dx fs)) : ∃ od, PySem.W.InstAt s.heap a (PySem.W.instObj C dx) C (some od) :=
  let ⟨_, O, _⟩ := ins_get I.hok e
  let ⟨od, i, _⟩ := O.look
  ⟨od, i⟩

/-- a def runs, from anywhere under the body X -/
theorem run_in {A : Around} {Q : VK} {us : List Value} {vs : List V} (F : FnOk X.prog X.w X.K X.mg X.base CX k f fd ps sp) (hr : Room k A) (hb : Binds X.K fd ps ds) (hd : Vals dvs ds) (hx : Passes CX X E)
    (e0 : Env0 X.prog X.w X.K X.mg X.base A X.stack s H) (I : Inv X pins σ H s) (r : Vals vs us) (h : sp (vs ++ dvs) H Q E) : wpAny (model X.prog X.w) A (call (.ref f) us) (EP X pins σ Q) X.xe s := by
  have r2 : Vals (vs ++ dvs) (us ++ ds) := r.append hd
  have hl : (us ++ ds).length = ps.length := by rw [← r2.length]; exact F.len _ _ _ _ h
  refine wpAny_call (codeAny_mono (F.run A X.stack s H ⟨us, []⟩ (us ++ ds) (vs ++ dvs) Q E hr e0 (hb s us I.kIn hl) r2 h) fun r s' hq => ?_)
  rcases r with e | fl
  · exact hx pins σ H s e s' I hq
  · rcases fl with _ | _ | _ | u
    all_goals first | exact False.elim hq | exact I.after hq

/-- what type the other operand has: it isn't below C -/
def NotBelow (K : PySem.W.Frag) (C : Addr) (y : V) (H : Hp) : Prop := ∃ t, TyX K H y t ∧ PySem.W.notFirst K C t = true

/-- x op y by the class's own def -/
def rCmpO (K : PySem.W.Frag) (C : Addr) (sp : Sp) (E : XK) : R2 := fun x y H Q => ∃ a dx fs, x = .ref a ∧ H a = some (.ins C dx fs) ∧ NotBelow K C y H ∧ sp [x, y] H Q E
theorem op_cmpO {op : CmpOp} (m : Meth X.K C (cmpInfo op).2.1 f) (F : FnOk X.prog X.w X.K X.mg X.base CX k f fd ps sp) (hr : Room k X.A) (hb : Binds X.K fd ps []) (hx : Passes CX X E)
    (hop : ∀ a b, compareOp op a b = richCompare op a b := by exact fun _ _ => rfl) : OpR X (compareOp op) (rCmpO X.K C sp E) := by
  intro pins s σ H x y v u Q I rx ry h
  obtain ⟨a, dx, fs, rfl, ha, ⟨t, ty, nb⟩, q⟩ := h
  cases (show v = Value.ref a from rx)
  obtain ⟨od, J⟩ := Inv.inst I ha
  obtain ⟨mm, hF⟩ := I.fr
  obtain ⟨Pk, Z, p, _⟩ := kit_of I ry ty
  rw [hop]
  refine PySem.W.cmp_K (op := op) (tb := t) hr.units0 hF I.ok.mod.kin J (Z.ty _ _ I.kIn p) nb m.at_ m.fn ?_
  refine wpAny_mono (run_in (us := [.ref a, u]) (vs := [.ref a, y]) F hr hb .nil hx I.env0 I (.cons rfl (.cons ry .nil)) (by rw [List.append_nil]; exact q)) (fun z s' e => ?_) fun _ _ e => e
  obtain ⟨z', H', I', rz, qz⟩ := e
  exact SlX.cmpback rz ⟨z', H', I', rz, qz⟩

/-- x != y by the class's own __eq__ -/
def rNeO (K : PySem.W.Frag) (C : Addr) (sp : Sp) (E : XK) : R2 := fun x y H Q => ∃ a dx fs, x = .ref a ∧ H a = some (.ins C dx fs) ∧ NotBelow K C y H ∧ sp [x, y] H (fun v H' => ∃ b, v = .bl b ∧ Q (.bl (!b)) H') E
theorem op_neO (m : Meth X.K C "__eq__" f) (ne : PySem.W.findIn X.K (.ref C) "__ne__" = some (some (.builtin "object.__ne__"))) (mo : PySem.W.mroIn X.K C (.type "object") = some true)
    (F : FnOk X.prog X.w X.K X.mg X.base CX k f fd ps sp) (hr : Room (k + 1) X.A) (hb : Binds X.K fd ps []) (hx : Passes CX X E) : OpR X (compareOp .NotEq) (rNeO X.K C sp E) := by
  intro pins s σ H x y v u Q I rx ry h
  obtain ⟨a, dx, fs, rfl, ha, ⟨t, ty, nb⟩, q⟩ := h
  cases (show v = Value.ref a from rx)
  obtain ⟨od, J⟩ := Inv.inst I ha
  obtain ⟨Pk, Z, p, _⟩ := kit_of I ry ty
  have Lb : PySem.W.Looks (model X.prog X.w) s.heap (typeOf u) t := Z.ty _ _ I.kIn p
  have core : wpAny (model X.prog X.w) X.A (call (.builtin "object.__ne__") [.ref a, u]) (EP X pins σ Q) X.xe s := by
    refine wpAny_call (codeAny_call_builtin PySem.F.cmp_object.ne.plain PySem.F.cmpEntry_ne (PySem.W.check_slot (i := "object.__ne__") (owner := "object") (n := "__ne__") PySem.F.cmpKind_ne PySem.F.cmpSplit_ne (J.type.andThen (PySem.W.looks_mroIn I.kIn mo)) (PySem.F.cmpArgs_ne _ _) ?_))
    unfold Builtin.«object.__ne__»
    refine wpAny_bind (m := slotArgs "__ne__" 1 _) (wpAny_pure ?_)
    refine wpAny_bind (m := cRoomFor _ _) (wpAny_cRoomFor (hr.in1).units0 ?_)
    refine wpAny_bind (m := callSpecialIfBound? (.ref a) (Str.ofString "__eq__") _) (PySem.W.ifBound_K I.kIn J m.at_ m.fn ?_)
    refine wpAny_mono (run_in (us := [.ref a, u]) (vs := [.ref a, y]) F hr.in1 hb .nil hx I.env0.in1 I (.cons rfl (.cons ry .nil)) (by rw [List.append_nil]; exact q)) (fun z s' e => ?_) fun _ _ e => e
    obtain ⟨z', H', I', rz, b, rfl, qz⟩ := e
    cases (show z = Value.bool b from rz)
    exact wpAny_bind (wpAny_truthy_bool (wpAny_pure ⟨.bl (!b), H', I', rfl, qz⟩))
  have one : wpAny (model X.prog X.w) X.A (tryCompare (.ref a) "__ne__" u) (fun r s' => ∃ v, r = some v ∧ EP X pins σ Q v s') X.xe s := by
    unfold tryCompare
    refine wpAny_bind ?_
    simp only [callSpecialIfBound?, bindSpecialIfBound?]
    refine wpAny_holding (wpAny_bind (wpAny_bind (wpAny_bind (J.type.here ((PySem.W.looks_findIn I.kIn ne).here ?_)))))
    simp only [PySem.F.cmp_object.ne.bind]
    have fin : wpAny (model X.prog X.w) X.A (call (.builtin "object.__ne__") ([.ref a] ++ [u]) >>= fun v => pure (some v)) (fun a_1 s' => wpAny (model X.prog X.w) X.A (match a_1 with
        | some Value.notImplemented | none => pure none
        | some v => pure (some v)) (fun r s' => ∃ v, r = some v ∧ EP X pins σ Q v s') X.xe s') X.xe s := by
      refine wpAny_bind (wpAny_mono core (fun z s' e => wpAny_pure ?_) fun _ _ e => e)
      have e2 := e
      obtain ⟨z', H', I', rz, qz⟩ := e2
      have nn : PySem.W.CmpBack (fun z s' => EP X pins σ Q z s') z s' := SlX.cmpback rz e
      cases z <;> first | exact nn.elim | exact wpAny_pure ⟨_, rfl, nn⟩
    refine wpAny_bind (wpAny_askSetting (wpAny_ite ?_))
    split
    · exact wpAny_bind (wpAny_pure (wpAny_pure fin))
    · exact wpAny_tryCatch (wpAny_bind (wpAny_pure (wpAny_pure fin)))
  show wpAny _ _ (richCompare .NotEq (.ref a) u) _ _ s
  unfold richCompare
  simp only [oneThing_ref]
  refine wpAny_holding (wpAny_bind (wpAny_cRoomFor hr.units0 ?_))
  refine wpAny_bind (J.type.here (wpAny_bind (Lb.here ?_)))
  split
  · rename_i h1
    have e : PySem.W.subIn X.K t (.ref C) = some false := by
      rcases Bool.or_eq_true_iff.mp nb with e | e
      · rw [beq_iff_eq.mp e] at h1; simp at h1
      · exact beq_iff_eq.mp e
    refine wpAny_bind ((PySem.W.looks_subIn I.kIn e).here ?_)
    simp only [Bool.false_eq_true, if_false]
    refine wpAny_bind (wpAny_mono one (fun r s' z => ?_) fun _ _ e => e)
    obtain ⟨v, rfl, hq⟩ := z
    exact wpAny_pure hq
  · refine wpAny_bind (wpAny_pure ?_)
    simp only [Bool.false_eq_true, if_false]
    refine wpAny_bind (wpAny_mono one (fun r s' z => ?_) fun _ _ e => e)
    obtain ⟨v, rfl, hq⟩ := z
    exact wpAny_pure hq

/-- x op y, both of the class -/
def rBinO (C : Addr) (sp : Sp) (E : XK) : R2 := fun x y H Q => ∃ a dx fs b dy gs, x = .ref a ∧ y = .ref b ∧ H a = some (.ins C dx fs) ∧ H b = some (.ins C dy gs) ∧ sp [x, y] H Q E
theorem op_binO {op : Operator} (m : Meth X.K C (PySem.dunder op.info.2) f) (sf : PySem.W.selfFirst X.K C = true) (F : FnOk X.prog X.w X.K X.mg X.base CX k f fd ps sp) (hr : Room k X.A) (hb : Binds X.K fd ps []) (hx : Passes CX X E) :
    OpR X (binaryOp op) (rBinO C sp E) := by
  intro pins s σ H x y v u Q I rx ry h
  obtain ⟨a, dx, fs, b, dy, gs, rfl, rfl, ha, hb', q⟩ := h
  cases (show v = Value.ref a from rx)
  cases (show u = Value.ref b from ry)
  obtain ⟨od, J⟩ := Inv.inst I ha
  obtain ⟨oe, J'⟩ := Inv.inst I hb'
  obtain ⟨mm, hF⟩ := I.fr
  refine PySem.W.binop_K hF I.ok.mod.kin J J'.type sf m.at_ m.fn ?_
  refine wpAny_mono (run_in (us := [.ref a, .ref b]) (vs := [.ref a, .ref b]) F hr hb .nil hx I.env0 I (.cons rfl (.cons rfl .nil)) (by rw [List.append_nil]; exact q)) (fun z s' e => ?_) fun _ _ e => e
  obtain ⟨z', H', I', rz, qz⟩ := e
  exact SlX.cmpback rz ⟨z', H', I', rz, qz⟩

/-- y in x, y not in x -/
def rInO (C : Addr) (neg : Bool) (sp : Sp) (E : XK) : R2 := fun y x H Q => ∃ a dx fs, x = .ref a ∧ H a = some (.ins C dx fs) ∧ sp [x, y] H (fun v H' => ∃ b, v = .bl b ∧ Q (.bl (if neg then !b else b)) H') E
theorem op_inO (m : Meth X.K C "__contains__" f) (F : FnOk X.prog X.w X.K X.mg X.base CX k f fd ps sp) (hr : Room k X.A) (hb : Binds X.K fd ps []) (hx : Passes CX X E) : OpR X (compareOp .In) (rInO C false sp E) := by
  intro pins s σ H y x u v Q I ry rx h
  obtain ⟨a, dx, fs, rfl, ha, q⟩ := h
  cases (show v = Value.ref a from rx)
  obtain ⟨od, J⟩ := Inv.inst I ha
  obtain ⟨mm, hF⟩ := I.fr
  refine PySem.W.in_K hF I.ok.mod.kin J m.at_ m.fn ?_
  refine wpAny_mono (run_in (us := [.ref a, u]) (vs := [.ref a, y]) F hr hb .nil hx I.env0 I (.cons rfl (.cons ry .nil)) (by rw [List.append_nil]; exact q)) (fun z s' e => ?_) fun _ _ e => e
  obtain ⟨z', H', I', rz, b, rfl, qz⟩ := e
  cases (show z = Value.bool b from rz)
  exact wpAny_truthy_bool ⟨.bl b, H', I', rfl, qz⟩
theorem op_notInO (m : Meth X.K C "__contains__" f) (F : FnOk X.prog X.w X.K X.mg X.base CX k f fd ps sp) (hr : Room k X.A) (hb : Binds X.K fd ps []) (hx : Passes CX X E) : OpR X (compareOp .NotIn) (rInO C true sp E) := by
  intro pins s σ H y x u v Q I ry rx h
  obtain ⟨a, dx, fs, rfl, ha, q⟩ := h
  cases (show v = Value.ref a from rx)
  obtain ⟨od, J⟩ := Inv.inst I ha
  obtain ⟨mm, hF⟩ := I.fr
  refine PySem.W.notIn_K hF I.ok.mod.kin J m.at_ m.fn ?_
  refine wpAny_mono (run_in (us := [.ref a, u]) (vs := [.ref a, y]) F hr hb .nil hx I.env0 I (.cons rfl (.cons ry .nil)) (by rw [List.append_nil]; exact q)) (fun z s' e => ?_) fun _ _ e => e
  obtain ⟨z', H', I', rz, b, rfl, qz⟩ := e
  cases (show z = Value.bool b from rz)
  exact wpAny_truthy_bool ⟨.bl (!b), H', I', rfl, qz⟩

/-- len(x) -/
def rLenO (C : Addr) (sp : Sp) (E : XK) : List V → Hp → VK → Prop := fun xs H Q => ∃ a dx fs, xs = [.ref a] ∧ H a = some (.ins C dx fs) ∧ sp xs H (fun v H' => ∃ n : Nat, v = .int n ∧ n < 2 ^ 62 ∧ Q v H') E
theorem call_lenO (m : Meth X.K C "__len__" f) (F : FnOk X.prog X.w X.K X.mg X.base CX k f fd ps sp) (hr : Room (k + 1) X.A) (hb : Binds X.K fd ps []) (hx : Passes CX X E) : CallR X (.builtin "len") (rLenO C sp E) := by
  intro pins s σ H xs us Q I r h
  obtain ⟨a, dx, fs, rfl, ha, q⟩ := h
  rw [Vals.ref1 r]
  obtain ⟨od, J⟩ := Inv.inst I ha
  obtain ⟨mm, hF⟩ := I.fr
  refine PySem.W.len_K hF I.ok.mod.kin J m.at_ m.fn ?_
  refine wpAny_mono (run_in (us := [.ref a]) (vs := [.ref a]) F hr.in1 hb .nil hx I.env0.in1 I (.cons rfl .nil) (by rw [List.append_nil]; exact q)) (fun z s' e => ?_) fun _ _ e => e
  obtain ⟨z', H', I', rz, n, rfl, hn, qz⟩ := e
  obtain ⟨t, rfl⟩ := (show ∃ t, z = Value.int n t from rz)
  exact ⟨⟨by omega, by omega⟩, .int n, H', I'.tok _, ⟨_, rfl⟩, qz⟩

/-- x[y] -/
def rGetO (C : Addr) (sp : Sp) (E : XK) : R2 := fun x y H Q => ∃ a dx fs, x = .ref a ∧ H a = some (.ins C dx fs) ∧ sp [x, y] H Q E
theorem pe_getO {o i : Expr} {to ti : TE} {pos : Pos} (m : Meth X.K C "__getitem__" f) (fn : PySem.W.fnIn X.K f = true) (F : FnOk X.prog X.w X.K X.mg X.base CX k f fd ps sp) (hr : Room (k + 1) X.A) (hb : Binds X.K fd ps []) (hx : Passes CX X E) (ho : PE X o to) (hi : PE X i ti)
    (hsl : ∀ x y, subscripted i true x y = runValue (.builtin "lifetime.subscript" ⟨[x, y], []⟩) := by intro _ _; with_unfolding_all rfl) : PE X (.Subscript o i pos) (tOp (rGetO C sp E) to ti) := by
  refine ⟨fun pins s σ H Q I h => ?_⟩
  refine Subscript_ (binT ho hi I h fun v u s2 x y H2 I2 rx ry q => ?_)
  obtain ⟨a, dx, fs, rfl, ha, q⟩ := q
  cases (show v = Value.ref a from rx)
  obtain ⟨od, J⟩ := Inv.inst I2 ha
  obtain ⟨mm, hF⟩ := I2.fr
  refine PySem.W.sub_K hF I2.ok.mod.kin J m.at_ fn m.fn ?_ (hsl _ _)
  exact run_in (us := [.ref a, u]) (vs := [.ref a, y]) F hr.in1 hb .nil hx I2.env0.in1 I2 (.cons rfl (.cons ry .nil)) (by rw [List.append_nil]; exact q)
end
end Mf

/-! Sets of texts built by set(xs), and sorted(..) of them. -/
namespace Mf
open PySem PySem.Spec PyProof.Rows L2 PySem.Froz

section
variable {P : Program} {w : World} {A : Around} {E : Value → Shared → Prop} {s : Shared} {a : Addr} {l : List Str} {k : Str} {u : Tok}

/-- a set of the texts l (each once) at a -/
def TxR (P : Program) (w : World) (h : Heap) (a : Addr) (l : List Str) : Prop :=
  (∃ D : SD, h.get? a = some (sObj "set" D) ∧ TxOk P w D l ∧ Ris D.2.2.place.toList ∧ (w.params.followText "set-order" = true ∨ D.2.2.led = true)) ∧ l.Nodup ∧ l.length < scanBound

theorem TxR.keep {h h' : Heap} (R : TxR P w h a l) (q : ∀ o, h.get? a = some o → h'.get? a = some o) : TxR P w h' a l :=
  let ⟨⟨D, e, z⟩, n, f⟩ := R
  ⟨⟨D, q _ e, z⟩, n, f⟩

theorem add_order (D : SD) (x : Int) (v : Value) (r : Ris D.2.2.place.toList) : Ris (addTx x v D).2.2.place.toList ∧ (addTx x v D).2.2.led = D.2.2.led := by
  obtain ⟨es, ep, t⟩ := D
  have r1 := layNew_ris t es x v r
  have l1 := layNew_led t es x v
  show Ris (tailTx ep (layNew t es x v).1 (if (layNew t es x v).2.1.plain = true then { (layNew t es x v).2.1 with plain := false } else (layNew t es x v).2.1) (layNew t es x v).2.2.1).2.2.place.toList ∧ (tailTx ep (layNew t es x v).1 (if (layNew t es x v).2.1.plain = true then { (layNew t es x v).2.1 with plain := false } else (layNew t es x v).2.1) (layNew t es x v).2.2.1).2.2.led = t.led
  generalize layNew t es x v = Z at r1 l1 ⊢
  obtain ⟨es1, t1, wd, g⟩ := Z
  dsimp only at r1 l1 ⊢
  have r2 : Ris (if t1.plain = true then { t1 with plain := false } else t1).place.toList := by split <;> exact r1
  have l2 : (if t1.plain = true then { t1 with plain := false } else t1).led = t.led := by split <;> exact l1
  generalize (if t1.plain = true then { t1 with plain := false } else t1) = t2 at r2 l2 ⊢
  unfold tailTx
  split
  · exact ⟨relayAll_ris t2 es1 _, (relayAll_led t2 es1 _).trans l2⟩
  · exact ⟨r2, l2⟩

theorem add_dup {Q : Bool → Shared → Prop} {D : SD} (ho : s.heap.get? a = some (sObj "set" D)) (F : TxOk P w D l) (hk : k ∈ l) (hb : l.length < scanBound) (h : Q false s) : wpAny (model P w) A (setAddHashed a (.str k u) (hashStr w k)) Q E s := by
  obtain ⟨es, ep, t⟩ := D
  have dd : (sObj "set" (es, ep, t)).data = .set es ep t := rfl
  have ff : t.fits es.size = true := F.fit
  have el : ElemsOf (strKind P w) es.toList := F.el
  have zz : es.size = l.length := F.sz
  have b0 : es.size < scanBound := by omega
  have key : (strKind P w).is k (.str k u) = true := is_str k u
  unfold setAddHashed setAddHashedIn
  refine wpAny_holding (wpAny_bind (wpAny_setState_of ho dd ff ?_))
  dsimp only
  rw [byScan_of rfl b0 el]
  simp only [↓reduceIte]
  unfold setAddByScan
  refine wpAny_bind ?_
  refine wpAny_bind (wpAny_rule ?_)
  refine wpAny_bind (wpAny_setScan_of (knd := strKind P w) (k := k) key ho dd ff el ?_)
  cases hr : List.findIdx? (fun e => (strKind P w).is k e.2) es.toList with
  | some j => exact wpAny_pure (wpAny_pure h)
  | none =>
    obtain ⟨e, he, q⟩ := (F.mem k).mp hk
    have c := List.findIdx?_eq_none_iff.mp hr e he
    rw [q] at c
    cases c

theorem txr_add {Q : Bool → Shared → Prop} (R : TxR P w s.heap a l) (room : l.length + 1 < scanBound)
    (hQ : ∀ (b : Bool) h' l', Heap.SameBut a s.heap h' → TxR P w h' a l' → (∀ z, z ∈ l' ↔ z ∈ l ∨ z = k) → l'.length ≤ l.length + 1 → Q b { s with heap := h' }) :
    wpAny (model P w) A (setAddHashed a (.str k u) (hashStr w k)) Q E s := by
  obtain ⟨⟨D, ho, F, r, fl⟩, nd, few⟩ := id R
  by_cases hk : k ∈ l
  · refine add_dup ho F hk few ?_
    exact hQ false s.heap l (Heap.SameBut.refl a s.heap) R (fun z => ⟨Or.inl, fun q => q.elim id fun e => e ▸ hk⟩) (Nat.le_succ _)
  · refine add_x ho F hk room ?_
    have o := add_order D (hashStr w k) (.str k u) r
    refine hQ true _ (k :: l) (Heap.SameBut.update s.heap a _) ⟨⟨_, get_upd _ ho rfl, add_ok u F, o.1, fl.imp id fun z => o.2.trans z⟩, List.nodup_cons.mpr ⟨hk, nd⟩, room⟩ (fun z => ?_) (Nat.le_refl _)
    rw [List.mem_cons]
    exact Or.comm

theorem txr_new {h : Heap} (e : h.get? a = some { cls := .type "set", dict := none, data := .set #[] 0 (.fresh 0 0 (!w.params.followText "set-order")) }) : TxR P w h a [] := by
  refine ⟨⟨(#[], 0, .fresh 0 0 (!w.params.followText "set-order")), e, TxOk.nil rfl, List.Pairwise.nil, ?_⟩, List.nodup_nil, by decide⟩
  show _ ∨ (!w.params.followText "set-order") = true
  cases w.params.followText "set-order"
  · exact .inr rfl
  · exact .inl rfl

/-- set.update's turns over texts -/
theorem loop_txt {I : Addr} {fp wr : List Addr} {G : Array GenState → Array GenState → Prop} {n : Nat} {Pv : Nat → Value → Prop} {St : Nat → Shared → Prop} {R : Result → Shared → Prop}
    (W : WalksS P w A.in1 I fp wr G n Pv St) (S : Addr) (nS : S ∉ fp) (xs : List Str) (hn : n = xs.length) (room : n + 1 < scanBound) (val : ∀ i v, Pv i v → ∃ x t, xs[i]? = some x ∧ v = .str x t) :
    ∀ (k i : Nat) (s : Shared), n - i = k → i ≤ n → St i s → (∃ l, TxR P w s.heap S l ∧ (∀ z, z ∈ l ↔ z ∈ xs.take i) ∧ l.length ≤ i) →
      (∀ s' l, Moved (S :: wr) G s s' → TxR P w s'.heap S l → (∀ z, z ∈ l ↔ z ∈ xs) → R (.ok (.ret .none)) s') →
      codeAny (model P w) A (.builtin "set.update.loop" ⟨[.ref S, .ref I], []⟩) R s := by
  have sw : S ∉ wr := fun q => nS (W.sub _ q)
  have sub : ∀ b ∈ wr, b ∈ S :: wr := fun b q => List.mem_cons_of_mem _ q
  intro k
  induction k with
  | zero =>
    rintro i s hk hi hst ⟨l, hS, hm, _⟩ hR
    obtain rfl : i = n := by omega
    refine codeAny_builtin F.entry_set_update_loop ?_
    rw [Around.under_plainId F.plain_set_update_loop _]
    show wpAny _ A.in1 (pyNext (.ref I) >>= _) _ _ s
    refine wpAny_bind (W.done s _ _ hst fun s' mv => ?_)
    show wpAny _ A.in1 (ret Value.none) _ _ s'
    refine wpAny_pure (hR s' l (mv.mono sub) (hS.keep fun o e => mv.heap S o sw e) fun z => ?_)
    rw [hm z, hn, List.take_length]
  | succ k ih =>
    rintro i s hk hi hst ⟨l, hS, hm, hle⟩ hR
    have lt : i < n := by omega
    refine codeAny_builtin F.entry_set_update_loop ?_
    rw [Around.under_plainId F.plain_set_update_loop _]
    show wpAny _ A.in1 (pyNext (.ref I) >>= _) _ _ s
    refine wpAny_bind (W.item i s _ _ lt hst fun v s' pv' hst' mv => ?_)
    obtain ⟨x, t, ex, rfl⟩ := val i v pv'
    have hS' : TxR P w s'.heap S l := hS.keep fun o e => mv.heap S o sw e
    show wpAny _ A.in1 (holding [Value.str x t] (setAdd S (.str x t)) >>= _) _ _ s'
    refine wpAny_bind (wpAny_holding ?_)
    unfold setAdd
    refine wpAny_holding (wpAny_bind ((strKind P w).pyHash (is_str x t) ?_))
    refine txr_add (s := { s' with toks := s'.toks + 1 }) hS' (by omega) fun b h' l' same R' m' le' => ?_
    have tk : xs.take (i + 1) = xs.take i ++ [x] := by rw [List.take_add_one, ex]; rfl
    refine wpAny_pure ⟨plainId_quiet F.plain_set_update_loop _, ih (i + 1) _ (by omega) lt (W.frame _ s' _ _ hst' (Nat.le_add_right _ _) fun b hb o e => ?_) ⟨l', R', fun z => ?_, by omega⟩ fun s'' l2 mv2 R2 m2 => ?_⟩
    · rw [same.2 b (fun q : b = S => nS (q ▸ hb))]
      exact e
    · rw [m' z, hm z, tk, List.mem_append, List.mem_singleton]
    · refine hR s'' l2 (Moved.trans W.gtrans ((mv.mono sub).then_heap (Nat.le_add_right _ _) fun b o hb e => ?_) mv2) R2 m2
      rw [same.2 b (fun q : b = S => hb (q ▸ List.mem_cons_self))]
      exact e

abbrev set0 (w : World) : Obj := { cls := .type "set", dict := none, data := .set #[] 0 (.fresh 0 0 (!w.params.followText "set-order")) }

/-- how a builtin's tree ends, as a result R -/
def FinX (P : Program) (w : World) (B : Around) (R : Result → Shared → Prop) : Fin → Shared → Prop
  | .done f, s' => R (.ok f) s'
  | .again c', s' => c'.quiet = true ∧ codeAny (model P w) B c' R s'

/-- the set at S is filled from what stands at c -/
def Fills (P : Program) (w : World) (s : Shared) (c : Addr) (xs : List Str) : Prop :=
  ∀ (B : Around) (R : Result → Shared → Prop), B.handled = none →
    (∀ (h' : Heap) (tk : Nat) (l : List Str), TxR P w h' s.heap.objs.size l → (∀ z, z ∈ l ↔ z ∈ xs) → (∀ b o, s.heap.get? b = some o → h'.get? b = some o) → R (.ok (.ret .none)) { s with heap := h', toks := tk }) →
    wpAny (model P w) B.in1 (Builtin.«set.__init__» ⟨[.ref s.heap.objs.size, .ref c], []⟩) (FinX P w B R) (fun e s' => R (.error e) s') { s with heap := s.heap.push (set0 w) }

theorem strs_val {us : List Value} {xs : List Str} (h : StrsAre us xs) : us.length = xs.length ∧ ∀ (i : Nat) (v : Value), us[i]? = some v → ∃ x t, xs[i]? = some x ∧ v = .str x t := by
  induction h with
  | nil => exact ⟨rfl, fun i v q => by simp at q⟩
  | cons x t h ih =>
    refine ⟨congrArg (· + 1) ih.1, fun i v q => ?_⟩
    cases i with
    | zero => exact ⟨x, t, rfl, (Option.some.inj q).symm⟩
    | succ i => exact ih.2 i v q

section
variable {items : Array Value} {xs : List Str} {c : Addr}
theorem fill_end {I : Addr} {R : Result → Shared → Prop} (hI : I = s.heap.objs.size + 1)
    (hR : ∀ (h' : Heap) (tk : Nat) (l : List Str), TxR P w h' s.heap.objs.size l → (∀ z, z ∈ l ↔ z ∈ xs) → (∀ b o, s.heap.get? b = some o → h'.get? b = some o) → R (.ok (.ret .none)) { s with heap := h', toks := tk })
    {h0 : Heap} (k0 : ∀ b o, s.heap.get? b = some o → h0.get? b = some o) {s' : Shared} {l : List Str} (mv : Moved [s.heap.objs.size, I] (fun a b => b = a) { s with heap := h0 } s') (T : TxR P w s'.heap s.heap.objs.size l) (m : ∀ z, z ∈ l ↔ z ∈ xs) : R (.ok (.ret .none)) s' := by
  obtain ⟨h', g2, d2, t2, o2⟩ := s'
  have e1 : g2 = s.gens := mv.gens
  have e2 : d2 = s.drawn := mv.drawn
  have e3 : o2 = s.os := mv.os
  subst e1 e2 e3
  refine hR h' t2 l T m fun b o e => mv.heap b o (fun z => ?_) (k0 b o e)
  have lt : b < s.heap.objs.size := Heap.lt_size e
  rcases List.mem_cons.mp z with z | z
  · exact absurd z (Nat.ne_of_lt lt)
  · exact absurd ((List.mem_singleton.mp z).trans hI) (Nat.ne_of_lt (Nat.lt_succ_of_lt lt))

set_option maxHeartbeats 3200000 in
theorem fills_list (hl : s.heap.IsList c items) (hit : StrsAre items.toList xs) (room : xs.length + 1 < scanBound) : Fills P w s c xs := by
  intro B R hh hR
  obtain ⟨len, val⟩ := strs_val hit
  rw [Array.length_toList] at len
  obtain ⟨⟨k, dd, da, sl⟩, hob, hk, n, hd⟩ := hl
  simp only at hk hd
  subst hk hd
  have hob1 : (s.heap.push (set0 w)).get? c = some { cls := .type "list", dict := dd, data := .seq items n, slots := sl } := Heap.get?_push_of_some _ hob
  have f1 := F.sub_list_set
  have f2 := F.sub_list_frozenset
  have f3 : (Value.type "list" == Value.type "dict") = false := by decide
  have isl : (s.heap.push (set0 w)).IsList c items := ⟨_, hob1, rfl, n, rfl⟩
  unfold Builtin.«set.__init__» noKeywords Builtin.Frozenset.updateFrom
  generalize gq : pyIter = PI
  wp_walk
  subst gq
  refine wpAny_pyIter_list isl ?_
  refine wpAny_bind (wpAny_runValue ?_)
  have h3 : B.in1.in1.handled = none := by simp [hh]
  have lt : c < s.heap.objs.size := Heap.lt_size hob
  have z1 : (s.heap.push (set0 w)).objs.size = s.heap.objs.size + 1 := Heap.size_push ..
  have nI : c ≠ (s.heap.push (set0 w)).objs.size := by rw [z1]; exact Nat.ne_of_lt (Nat.lt_succ_of_lt lt)
  have nS : s.heap.objs.size ∉ [(s.heap.push (set0 w)).objs.size, c] := by
    rw [z1]
    simp only [List.mem_cons, List.not_mem_nil, or_false, not_or]
    exact ⟨Nat.ne_of_lt (Nat.lt_succ_self _), Nat.ne_of_gt lt⟩
  have get0 : (s.heap.push (set0 w)).get? s.heap.objs.size = some (set0 w) := Heap.get?_push_size _ rfl
  refine loop_txt ((Walks.list h3 _ c nI items).toS) s.heap.objs.size nS xs len (by omega) (fun i v q => val i v (by rw [Array.getElem?_toList]; exact q)) (items.size - 0) 0 _ (by omega) (Nat.zero_le _)
    ⟨⟨_, Heap.get?_push_size _ rfl, rfl, rfl⟩, isl.push _⟩ ⟨[], txr_new (Heap.get?_push_of_some _ get0), fun z => by simp, Nat.le_refl 0⟩ fun s' l mv T m => ?_
  have q := fill_end (R := R) z1 hR (fun b o e => Heap.get?_push_of_some _ (Heap.get?_push_of_some _ e)) mv T m
  show wpAny _ _ _ _ _ _
  refine wpAny_pure ?_
  show wpAny _ _ (ret Value.none) _ _ _
  exact wpAny_pure q
set_option maxHeartbeats 3200000 in
theorem fills_tuple (hl : s.heap.IsTuple c items) (hit : StrsAre items.toList xs) (room : xs.length + 1 < scanBound) : Fills P w s c xs := by
  intro B R hh hR
  obtain ⟨len, val⟩ := strs_val hit
  rw [Array.length_toList] at len
  obtain ⟨⟨k, dd, da, sl⟩, hob, hk, n, hd⟩ := hl
  simp only at hk hd
  subst hk hd
  have hob1 : (s.heap.push (set0 w)).get? c = some { cls := .type "tuple", dict := dd, data := .seq items n, slots := sl } := Heap.get?_push_of_some _ hob
  have f1 := F.sub_tuple_set
  have f2 := F.sub_tuple_frozenset
  have f3 : (Value.type "tuple" == Value.type "dict") = false := by decide
  have isl : (s.heap.push (set0 w)).IsTuple c items := ⟨_, hob1, rfl, n, rfl⟩
  unfold Builtin.«set.__init__» noKeywords Builtin.Frozenset.updateFrom
  generalize gq : pyIter = PI
  wp_walk
  subst gq
  refine wpAny_pyIter_tuple isl ?_
  refine wpAny_bind (wpAny_runValue ?_)
  have h3 : B.in1.in1.handled = none := by simp [hh]
  have lt : c < s.heap.objs.size := Heap.lt_size hob
  have z1 : (s.heap.push (set0 w)).objs.size = s.heap.objs.size + 1 := Heap.size_push ..
  have nI : c ≠ (s.heap.push (set0 w)).objs.size := by rw [z1]; exact Nat.ne_of_lt (Nat.lt_succ_of_lt lt)
  have nS : s.heap.objs.size ∉ [(s.heap.push (set0 w)).objs.size, c] := by
    rw [z1]
    simp only [List.mem_cons, List.not_mem_nil, or_false, not_or]
    exact ⟨Nat.ne_of_lt (Nat.lt_succ_self _), Nat.ne_of_gt lt⟩
  have get0 : (s.heap.push (set0 w)).get? s.heap.objs.size = some (set0 w) := Heap.get?_push_size _ rfl
  refine loop_txt ((Walks.tuple h3 _ c nI items).toS) s.heap.objs.size nS xs len (by omega) (fun i v q => val i v (by rw [Array.getElem?_toList]; exact q)) (items.size - 0) 0 _ (by omega) (Nat.zero_le _)
    ⟨⟨_, Heap.get?_push_size _ rfl, rfl, rfl⟩, isl.push _⟩ ⟨[], txr_new (Heap.get?_push_of_some _ get0), fun z => by simp, Nat.le_refl 0⟩ fun s' l mv T m => ?_
  have q := fill_end (R := R) z1 hR (fun b o e => Heap.get?_push_of_some _ (Heap.get?_push_of_some _ e)) mv T m
  show wpAny _ _ _ _ _ _
  refine wpAny_pure ?_
  show wpAny _ _ (ret Value.none) _ _ _
  exact wpAny_pure q

set_option maxHeartbeats 3200000 in
/-- set(xs), xs a list or tuple of texts -/
theorem set_call {Q : Value → Shared → Prop} (hh : A.handled = none) (fill : Fills P w s c xs)
    (h : ∀ (h' : Heap) (tk : Nat) (l : List Str), TxR P w h' s.heap.objs.size l → (∀ z, z ∈ l ↔ z ∈ xs) → (∀ b o, s.heap.get? b = some o → h'.get? b = some o) → Q (.ref s.heap.objs.size) { s with heap := h', toks := tk }) :
    wpAny (model P w) A (call (.type "set") [.ref c]) Q E s := by
  obtain ⟨c0, tl, hmro⟩ := F.called_set.mro
  have hmade := F.called_set.made
  have hsub := F.called_set.sub
  refine wpAny_call (codeAny_of_tree ?_)
  show wpAny _ _ (callAny (.type "set") _) _ _ _
  refine wpAny_pure ⟨Code.quiet_builtin _ (by decide +kernel), codeAny_builtin F.entry_type_call ?_⟩
  rw [Around.under_plain (weight_type_call_type "set" [.ref c] []) rfl]
  have h1 := F.called_set.notType
  have h2 := F.called_set.canCreate
  have h3 := F.typeCall_set_1 (.ref c)
  repeat (any_goals (first | assumption | wp_step))
  refine codeAny_mono (code_set_led1 (.ref c) (E := E) (Q₁ := fun obj s₁ => obj = .ref s.heap.objs.size ∧ s₁ = { s with heap := s.heap.push (set0 w) }) ⟨rfl, rfl⟩) fun r s1 hr => ?_
  rcases r with e | fl
  · exact hr
  rcases fl with _ | _ | _ | obj
  all_goals try exact hr.elim
  obtain ⟨rfl, rfl⟩ := hr
  have hS : (s.heap.push (set0 w)).get? s.heap.objs.size = some (set0 w) := Heap.get?_push_size _ rfl
  have tS : Shared.TypeIs { s with heap := s.heap.push (set0 w) } (.ref s.heap.objs.size) "set" := ⟨_, hS, rfl⟩
  have i1 := F.called_set.init.lookup
  have i2 := F.called_set.init.bind (.ref s.heap.objs.size)
  repeat (any_goals (first | assumption | wp_step))
  refine codeAny_mono (codeAny_call_builtin (R := wants (fun r s₂ => r = .none ∧ ∃ h' tk l, s₂ = { s with heap := h', toks := tk } ∧ TxR P w h' s.heap.objs.size l ∧ (∀ z, z ∈ l ↔ z ∈ xs) ∧ (∀ b o, s.heap.get? b = some o → h'.get? b = some o)) E)
    F.called_set.init.plain F.entry_set_init (check_set_init_1 tS ?_)) fun r2 s2 h2 => ?_
  · refine wpAny_mono (fill A.in1 (wants (fun r s₂ => r = .none ∧ ∃ h' tk l, s₂ = { s with heap := h', toks := tk } ∧ TxR P w h' s.heap.objs.size l ∧ (∀ z, z ∈ l ↔ z ∈ xs) ∧ (∀ b o, s.heap.get? b = some o → h'.get? b = some o)) E) (by simp [hh])
      fun h' tk l T m k => ⟨rfl, h', tk, l, rfl, T, m, k⟩) (fun fin s' q => ?_) fun _ _ q => q
    cases fin <;> exact q
  · rcases r2 with e | fl
    · exact h2
    rcases fl with _ | _ | _ | obj
    all_goals try exact h2.elim
    obtain ⟨rfl, h', tk, l, rfl, R, m, k⟩ := h2
    repeat (any_goals (first | assumption | wp_step))
    exact h _ _ _ R m k

theorem strs_get {l : List Str} : ∀ {vs : List Value}, (∀ v ∈ vs, ∃ x t, v = .str x t) → ∃ ys, StrsAre vs ys
  | [], _ => ⟨[], .nil⟩
  | v :: vs, h => by
    obtain ⟨x, t, rfl⟩ := h v List.mem_cons_self
    obtain ⟨ys, q⟩ := strs_get (l := l) fun u hu => h u (List.mem_cons_of_mem _ hu)
    exact ⟨x :: ys, .cons x t q⟩
theorem strs_mem {x : Str} : ∀ {vs : List Value} {ys : List Str}, StrsAre vs ys → (x ∈ ys ↔ ∃ t, Value.str x t ∈ vs)
  | _, _, .nil => by simp
  | _, _, .cons y t h => by
    rw [List.mem_cons, strs_mem h]
    constructor
    · rintro (rfl | ⟨u, q⟩)
      · exact ⟨t, List.mem_cons_self⟩
      · exact ⟨u, List.mem_cons_of_mem _ q⟩
    · rintro ⟨u, q⟩
      rcases List.mem_cons.mp q with e | q
      · injection e with e _
        exact .inl e
      · exact .inr ⟨u, q⟩

/-- sorted(a set of texts) -/
theorem sorted_txr {a : Addr} {l : List Str} {Q : Value → Shared → Prop} (T : TxR P w s.heap a l) (hh : A.handled = none)
    (hQ : ∀ s' p (out : Array Value) (c : Nat) (ys : List Str), (∀ b o, s.heap.get? b = some o → s'.heap.get? b = some o) → s'.gens = s.gens → s'.os = s.os → s.heap.objs.size ≤ p →
      s'.heap.get? p = some (seqObj "list" out c) → StrsAre out.toList ys → sortedS ys = true → (∀ z, z ∈ ys ↔ z ∈ l) → ys.length = l.length → Q (.ref p) s') :
    wpAny (model P w) A (call (.builtin "sorted") [.ref a]) Q E s := by
  obtain ⟨⟨⟨es, ep, t⟩, ho, F, r, fl⟩, nd, few⟩ := T
  have zz : es.size = l.length := F.sz
  refine Calls.call_function_entry kind_sorted plain_sorted entry_sorted (args_sorted1 _) ?_
  unfold Builtin.«sorted»
  refine wpAny_bind (m := checkCount "sorted" 1 1 _) (wpAny_pure ?_)
  refine wpAny_bind (collect_set (A := A.in1) hh ⟨_, ho, rfl, rfl⟩ F.fit (by rw [zz]; exact few) r fl fun s1 vs k1 hz g1 o1 pm => ?_)
  have all : ∀ v ∈ vs, ∃ x t, v = .str x t := fun v hv => by
    obtain ⟨e, he, rfl⟩ := List.mem_map.mp (pm.mem_iff.mp hv)
    obtain ⟨⟨x, hx, _⟩, _⟩ := F.el e he
    obtain ⟨t, q⟩ := Value.isStrOf_shape (x := x) (v := e.2) hx
    exact ⟨x, t, q⟩
  obtain ⟨ws, hS⟩ := strs_get (l := l) all
  have len := (strs_val hS).1
  have lvs : vs.length = l.length := by rw [pm.length_eq, List.length_map, Array.length_toList]; exact zz
  have mem : ∀ z, z ∈ ws ↔ z ∈ l := fun z => by
    rw [strs_mem hS, F.mem z]
    constructor
    · rintro ⟨t, q⟩
      obtain ⟨e, he, e2⟩ := List.mem_map.mp (pm.mem_iff.mp q)
      exact ⟨e, he, by rw [e2]; exact is_str z t⟩
    · rintro ⟨e, he, q⟩
      obtain ⟨t, e2⟩ := Value.isStrOf_shape (x := z) (v := e.2) q
      exact ⟨t, pm.mem_iff.mpr (List.mem_map.mpr ⟨e, he, e2⟩)⟩
  have few2 : vs.length ≤ sizeLine := by rw [lvs]; exact fits_of_scanBound few
  refine wpAny_bind (wpAny_newList ?_ few2)
  have hoL : (s1.heap.push (seqObj "list" vs.toArray 0)).get? s1.heap.objs.size = some (seqObj "list" vs.toArray 0) := Heap.get?_push_size _ rfl
  refine wpAny_bind (wpAny_holding (wpAny_call_entry slot_list_sort ⟨_, hoL, rfl⟩ entry_list_sort (list_sort_treeKAny strKind_oneLt hoL hS.keysOf (fun v₁ v₂ rest e => keyKind_strs (by rw [← e]; exact hS)) few2 fun st' hp hs => ⟨_, rfl, ?_⟩) (args_list_sort _)))
  obtain ⟨ys, g1', g2, g3⟩ := sorted_out_str hS hp hs
  obtain ⟨c, hc⟩ := sortedHeap_at (vs := vs) (out := (arrOf st').map (·.2)) hoL
  refine wpAny_pure ⟨_, rfl, hQ _ s1.heap.objs.size _ c ys (fun b u e => ?_) g1 o1 hz hc g1' g3 (fun z => by rw [g2.mem_iff, mem z]) (by rw [g2.length_eq, ← len, lvs])⟩
  have q := k1 b u e
  have lt := Heap.lt_size q
  show (sortedHeap (s1.heap.push (seqObj "list" vs.toArray 0)) s1.heap.objs.size vs _).get? b = some u
  rw [sortedHeap_old (Nat.ne_of_lt lt) (by rw [size_push']; exact Nat.lt_succ_of_lt lt)]
  exact Heap.get?_push_of_some _ q
end
end

/-! ### over the hand layer -/
section
variable {X : Cx}
def TxO (P : Program) (w : World) (a : Addr) (l : List Str) : HO := .ext fun h => TxR P w h a l
theorem txo_new {P : Program} {w : World} {H : Hp} {h : Heap} {a : Addr} {l : List Str} (R : TxR P w h a l) : ObjOk P w H h a (TxO P w a l) :=
  ⟨R, let ⟨⟨_, e, _⟩, _⟩ := R; ⟨_, e⟩, fun _ _ q k => q.keep k⟩

/-- set(xs) of a list or tuple of texts -/
def rSetS (K : PySem.W.Frag) (P : Program) (w : World) : List V → Hp → VK → Prop := fun vs H Q => ∃ (c : Addr) (xs : List Str), vs = [.ref c] ∧ (SqL K H c (xs.map V.str) ∨ SqT K H c (xs.map V.str)) ∧ xs.length < 4000 ∧
  ∀ (p : Addr) (l : List Str), H p = none → l.Nodup → (∀ z, z ∈ l ↔ z ∈ xs) → Q (.ref p) (upd H p (TxO P w p l))
theorem cr_setS (hc : X.calm = true) : CallR X (.type "set") (rSetS X.K X.prog X.w) := by
  intro pins s σ H vs us Q I r h
  obtain ⟨c, xs, rfl, hs, few, q⟩ := h
  rw [Vals.ref1 r]
  have hn : H s.heap.objs.size = none := I.hok.fresh (Nat.le_refl _)
  have fill : Fills X.prog X.w s c xs := by
    rcases hs with hs | hs
    · obtain ⟨its, rv, pl, hz⟩ := I.list hs
      exact fills_list pl.isList (by simpa using rv.strs) (by unfold scanBound; omega)
    · obtain ⟨its, rv, pl, hz⟩ := I.tuple hs
      exact fills_tuple pl (by simpa using rv.strs) (by unfold scanBound; omega)
  refine set_call (I.ok.hd hc) fill fun h' tk l T m k => ?_
  exact ⟨.ref s.heap.objs.size, _, I.laid (t' := tk) k (Nat.le_refl _) (txo_new T), rfl, q _ l hn T.2.1 m⟩

/-- sorted(a set of texts) -/
def rSortedX (P : Program) (w : World) : List V → Hp → VK → Prop := fun vs H Q => ∃ (a : Addr) (l : List Str), vs = [.ref a] ∧ H a = some (TxO P w a l) ∧
  ∀ (ys : List Str) (p : Addr), sortedS ys = true → (∀ z, z ∈ ys ↔ z ∈ l) → ys.length = l.length → H p = none → Q (.ref p) (upd H p (.lst (ys.map V.str)))
theorem cr_sortedX (hc : X.calm = true) : CallR X (.builtin "sorted") (rSortedX X.prog X.w) := by
  intro pins s σ H vs us Q I r h
  obtain ⟨a, l, rfl, ha, q⟩ := h
  have T : TxR X.prog X.w s.heap a l := (I.hok a _ ha).1
  rw [Vals.ref1 r]
  refine sorted_txr T (I.ok.hd hc) fun s' p out c ys k g o hp hg hS so m len => ?_
  have hn : H p = none := I.hok.fresh hp
  have few : (ys.map V.str).length ≤ sizeLine := by rw [List.length_map, len]; exact fits_of_scanBound T.2.2
  have J : Inv X pins σ (upd H p (.lst (ys.map V.str))) { s with heap := s'.heap, gens := s'.gens, drawn := s'.drawn, toks := s'.toks } :=
    I.call (ch := []) (Un.laid k hp hn) (I.hok.laid k hp ⟨few, out.toList, c, vals_of_strs hS, hg⟩) (by rw [g]; exact I.bare) fun _ z => nomatch z
  have e : s' = { s with heap := s'.heap, gens := s'.gens, drawn := s'.drawn, toks := s'.toks } := by
    rcases s' with ⟨_, _, _, _, _⟩
    cases o
    rfl
  rw [e]
  exact ⟨.ref p, _, J, rfl, q ys p so m len hn⟩
end
end Mf
/-! Sorted texts: the order, and that a sorted row without repeats is the only one of its members. -/
namespace Mf
open PySem L2
theorem lt_irr : ∀ l : List Nat, Spec.ltCps l l = false
  | [] => rfl
  | a :: r => by
    show (decide (a < a) || (a == a && Spec.ltCps r r)) = false
    rw [lt_irr r]; simp
theorem lt_asym : ∀ l m : List Nat, Spec.ltCps l m = true → Spec.ltCps m l = false
  | [], [], h => rfl
  | [], _ :: _, _ => rfl
  | _ :: _, [], h => by cases h
  | a :: r, b :: t, h => by
    have h : (decide (a < b) || (a == b && Spec.ltCps r t)) = true := h
    show (decide (b < a) || (b == a && Spec.ltCps t r)) = false
    simp only [Bool.or_eq_true, decide_eq_true_eq, Bool.and_eq_true, beq_iff_eq] at h
    simp only [Bool.or_eq_false_iff, decide_eq_false_iff_not, Bool.and_eq_false_iff, beq_eq_false_iff_ne]
    rcases h with h2 | ⟨rfl, h2⟩
    · exact ⟨by omega, .inl (by omega)⟩
    · exact ⟨by omega, .inr (lt_asym r t h2)⟩
theorem lt_tri : ∀ l m : List Nat, Spec.ltCps l m = false → Spec.ltCps m l = false → l = m
  | [], [], _, _ => rfl
  | [], _ :: _, h, _ => by cases h
  | _ :: _, [], _, h => by cases h
  | a :: r, b :: t, h, g => by
    have h : (decide (a < b) || (a == b && Spec.ltCps r t)) = false := h
    have g : (decide (b < a) || (b == a && Spec.ltCps t r)) = false := g
    simp only [Bool.or_eq_false_iff, decide_eq_false_iff_not, Bool.and_eq_false_iff, beq_eq_false_iff_ne] at h g
    obtain rfl : a = b := by omega
    rw [lt_tri r t (h.2.resolve_left fun n => n rfl) (g.2.resolve_left fun n => n rfl)]
theorem lt_trans : ∀ l m n : List Nat, Spec.ltCps l m = true → Spec.ltCps m n = true → Spec.ltCps l n = true
  | [], [], _, h, _ => by cases h
  | [], _ :: _, [], _, h => by cases h
  | [], _ :: _, _ :: _, _, _ => rfl
  | _ :: _, [], _, h, _ => by cases h
  | _ :: _, _ :: _, [], _, h => by cases h
  | a :: r, b :: t, c :: u, h, g => by
    have h : (decide (a < b) || (a == b && Spec.ltCps r t)) = true := h
    have g : (decide (b < c) || (b == c && Spec.ltCps t u)) = true := g
    show (decide (a < c) || (a == c && Spec.ltCps r u)) = true
    simp only [Bool.or_eq_true, decide_eq_true_eq, Bool.and_eq_true, beq_iff_eq] at h g ⊢
    rcases h with h2 | ⟨rfl, h2⟩
    · rcases g with g2 | ⟨rfl, g2⟩
      · left; omega
      · left; exact h2
    · rcases g with g2 | ⟨rfl, g2⟩
      · left; exact g2
      · right; exact ⟨rfl, lt_trans r t u h2 g2⟩
def Lt (x y : Str) : Prop := Spec.ltCps x.cps.toList y.cps.toList = true
theorem Lt.ne {x y : Str} (h : Lt x y) : x ≠ y := fun e => by subst e; unfold Lt at h; rw [lt_irr] at h; cases h
theorem Lt.asymm {x y : Str} (h : Lt x y) : ¬ Lt y x := fun g => by unfold Lt at h g; rw [lt_asym _ _ h] at g; cases g
theorem Lt.trans {x y z : Str} (h : Lt x y) (g : Lt y z) : Lt x z := lt_trans _ _ _ h g
theorem not_lt {x y : Str} (h : Spec.ltCps y.cps.toList x.cps.toList = false) (n : x ≠ y) : Lt x y := by
  unfold Lt
  cases e : Spec.ltCps x.cps.toList y.cps.toList with
  | true => rfl
  | false => exact absurd (tl_inj (lt_tri _ _ e h)) n
/-- in order, each once -/
def Up (l : List Str) : Prop := l.Pairwise Lt
theorem Up.nd {l : List Str} (h : Up l) : l.Nodup := List.Pairwise.imp (fun h => h.ne) h
theorem rising_up : ∀ (l : List Str) (p : Str), PyProof.Rows.risingS p l = true → (p :: l).Nodup → Up (p :: l)
  | [], p, _, _ => List.pairwise_singleton _ _
  | x :: r, p, h, nd => by
    have h : (!Spec.ltCps x.cps.toList p.cps.toList && PyProof.Rows.risingS x r) = true := h
    obtain ⟨h1, h2⟩ := Bool.and_eq_true_iff.mp h
    obtain ⟨n1, n2⟩ := List.nodup_cons.mp nd
    have u := rising_up r x h2 n2
    have px : Lt p x := not_lt (by simpa using h1) fun e => n1 (e ▸ List.mem_cons_self)
    refine List.pairwise_cons.mpr ⟨fun y hy => ?_, u⟩
    rcases List.mem_cons.mp hy with rfl | hy
    · exact px
    · exact px.trans ((List.pairwise_cons.mp u).1 y hy)
theorem up_of {l : List Str} (h : PyProof.Rows.sortedS l = true) (nd : l.Nodup) : Up l := by
  cases l with
  | nil => exact List.Pairwise.nil
  | cons x r => exact rising_up r x h nd
theorem up_one : ∀ {xs ys : List Str}, Up xs → Up ys → (∀ z, z ∈ xs ↔ z ∈ ys) → xs = ys
  | [], [], _, _, _ => rfl
  | [], y :: _, _, _, h => absurd ((h y).mpr List.mem_cons_self) (by simp)
  | x :: _, [], _, _, h => absurd ((h x).mp List.mem_cons_self) (by simp)
  | x :: xs, y :: ys, u, v, h => by
    obtain ⟨u1, u2⟩ := List.pairwise_cons.mp u
    obtain ⟨v1, v2⟩ := List.pairwise_cons.mp v
    have e : x = y := by
      rcases List.mem_cons.mp ((h x).mp List.mem_cons_self) with e | m
      · exact e
      · rcases List.mem_cons.mp ((h y).mpr List.mem_cons_self) with e | m'
        · exact e.symm
        · exact absurd (u1 y m') (v1 x m).asymm
    subst e
    rw [up_one u2 v2 fun z => ?_]
    constructor
    · intro m
      rcases List.mem_cons.mp ((h z).mp (List.mem_cons_of_mem _ m)) with e | q
      · exact absurd e.symm (u1 z m).ne
      · exact q
    · intro m
      rcases List.mem_cons.mp ((h z).mpr (List.mem_cons_of_mem _ m)) with e | q
      · exact absurd e.symm (v1 z m).ne
      · exact q
theorem nodup_le {α : Type} [DecidableEq α] : ∀ {l m : List α}, l.Nodup → l ⊆ m → l.length ≤ m.length
  | [], _, _, _ => Nat.zero_le _
  | x :: l, m, nd, sub => by
    obtain ⟨n1, n2⟩ := List.nodup_cons.mp nd
    have hx : x ∈ m := sub List.mem_cons_self
    have ih := nodup_le (m := m.erase x) n2 fun y hy => (List.mem_erase_of_ne (by rintro rfl; exact n1 hy)).mpr (sub (List.mem_cons_of_mem _ hy))
    rw [List.length_erase_of_mem hx] at ih
    have := List.length_pos_of_mem hx
    rw [List.length_cons]
    omega
theorem nodup_len {α : Type} [DecidableEq α] : ∀ {ys l : List α}, l.Nodup → l ⊆ ys → ys.length = l.length → ys.Nodup
  | [], _, _, _, _ => List.nodup_nil
  | y :: ys, l, nd, sub, e => by
    have hy : y ∈ l := Classical.byContradiction fun n => by
      have q := nodup_le (m := ys) nd fun z hz => (List.mem_cons.mp (sub hz)).resolve_left (by rintro rfl; exact n hz)
      rw [List.length_cons] at e
      omega
    have ny : y ∉ ys := fun m => by
      have q := nodup_le (m := ys) nd fun z hz => by
        rcases List.mem_cons.mp (sub hz) with rfl | h
        · exact m
        · exact h
      rw [List.length_cons] at e
      omega
    refine List.nodup_cons.mpr ⟨ny, nodup_len (l := l.erase y) (nd.erase y) (fun z hz => ?_) ?_⟩
    · obtain ⟨h1, h2⟩ := (nd.mem_erase_iff).mp hz
      exact (List.mem_cons.mp (sub h2)).resolve_left h1
    · rw [List.length_erase_of_mem hy, ← e, List.length_cons]; rfl
theorem sum_len {ys : List Str} {B : Nat} (h : ∀ y ∈ ys, y.length ≤ B) : (ys.map (·.length)).sum ≤ ys.length * B := by
  induction ys with
  | nil => simp
  | cons y ys ih =>
    rw [List.map_cons, List.sum_cons, List.length_cons, Nat.succ_mul]
    have a := h y List.mem_cons_self
    have b := ih fun z hz => h z (List.mem_cons_of_mem _ hz)
    omega
theorem flat_strs (zs : List Str) : (zs.map V.str).all flatV = true := by rw [List.all_map]; exact List.all_eq_true.mpr fun _ _ => rfl

/-! ### data that are compared -/
theorem dpS {K : PySem.W.Frag} {H : Hp} : ∀ zs : List Str, DpAll K H (zs.map V.str) (zs.map PyData.str)
  | [] => .nil
  | z :: zs => .cons (.str z) (dpS zs)
theorem dpB {K : PySem.W.Frag} {H : Hp} : ∀ bs : List Bool, DpAll K H (bs.map V.bl) (bs.map PyData.bool)
  | [] => .nil
  | b :: bs => .cons (.bl b) (dpB bs)
theorem eqvB : ∀ bs cs : List Bool, PyData.eqvAll (bs.map PyData.bool) (cs.map PyData.bool) = decide (bs = cs)
  | [], [] => rfl
  | [], _ :: _ => rfl
  | _ :: _, [] => rfl
  | b :: bs, c :: cs => by
    show ((b == c) && PyData.eqvAll (bs.map PyData.bool) (cs.map PyData.bool)) = _
    rw [eqvB bs cs]
    by_cases h : b = c <;> simp [h]
theorem eqvS : ∀ bs cs : List Str, PyData.eqvAll (bs.map PyData.str) (cs.map PyData.str) = decide (bs = cs)
  | [], [] => rfl
  | [], _ :: _ => rfl
  | _ :: _, [] => rfl
  | b :: bs, c :: cs => by
    show ((b == c) && PyData.eqvAll (bs.map PyData.str) (cs.map PyData.str)) = _
    rw [eqvS bs cs]
    by_cases h : b = c <;> simp [h]
theorem layB : ∀ bs : List Bool, PyData.canLayAll0 (bs.map PyData.bool) = true
  | [] => rfl
  | b :: bs => by show (true && PyData.canLayAll0 (bs.map PyData.bool)) = true; rw [layB bs]; rfl
theorem layS : ∀ zs : List Str, (∀ z ∈ zs, PyData.strOk z = true) → PyData.canLayAll0 (zs.map PyData.str) = true
  | [], _ => rfl
  | z :: zs, h => by
    show (PyData.strOk z && PyData.canLayAll0 (zs.map PyData.str)) = true
    rw [h z List.mem_cons_self, layS zs fun y hy => h y (List.mem_cons_of_mem _ hy)]; rfl
theorem depAll : ∀ {ds : List PyData}, (∀ d ∈ ds, PyData.depth d = 0) → PyData.depthAll ds = 0
  | [], _ => rfl
  | d :: ds, h => by
    show max (PyData.depth d) (PyData.depthAll ds) = 0
    rw [h d List.mem_cons_self, depAll fun y hy => h y (List.mem_cons_of_mem _ hy)]; rfl
theorem shB (bs : List Bool) : SeqAt.shaped (.list (bs.map PyData.bool)) = true := by
  refine Bool.and_eq_true_iff.mpr ⟨layB bs, decide_eq_true ?_⟩
  show PyData.depthAll (bs.map PyData.bool) + 1 ≤ 64
  rw [depAll fun d hd => by obtain ⟨b, _, rfl⟩ := List.mem_map.mp hd; rfl]
  decide
theorem shT {zs : List Str} (h : ∀ z ∈ zs, PyData.strOk z = true) : SeqAt.shaped (.tuple (zs.map PyData.str)) = true := by
  refine Bool.and_eq_true_iff.mpr ⟨layS zs h, decide_eq_true ?_⟩
  show PyData.depthAll (zs.map PyData.str) + 1 ≤ 64
  rw [depAll fun d hd => by obtain ⟨b, _, rfl⟩ := List.mem_map.mp hd; rfl]
  decide
theorem shL {zs : List Str} (h : ∀ z ∈ zs, PyData.strOk z = true) : SeqAt.shaped (.list (zs.map PyData.str)) = true := by
  refine Bool.and_eq_true_iff.mpr ⟨layS zs h, decide_eq_true ?_⟩
  show PyData.depthAll (zs.map PyData.str) + 1 ≤ 64
  rw [depAll fun d hd => by obtain ⟨b, _, rfl⟩ := List.mem_map.mp hd; rfl]
  decide
theorem IsName.ok {z : Str} (h : IsName z) : PyData.strOk z = true := by
  show z.cps.all (fun x => decide (x < 1114112)) = true
  rw [← Array.all_toList, List.all_eq_true]
  intro c hc
  have := (h.2.2 c hc).2
  exact decide_eq_true (by omega)
end Mf
/-! Classes and methods by one fact each; readings of the own operators. -/
namespace Mf
open PySem L2
/-- C(..): the class at C, its __init__'s promise, the defaults that fill up -/
structure CalC (P : Program) (w : World) (K : PySem.W.Frag) (mg : Str → Option Value) (base : Heap) (CX : CXT) (k : Nat) (x : Str) (C : Addr) (ps : List Str) (sp : Sp) (dvs : List V) : Prop where
  ex : ∃ (f : Addr) (fd : FuncData) (ds : List Value), Mk K C f ∧ FnOk P w K mg base CX k f fd ps sp ∧ mg x = some (.ref C) ∧ Binds K fd ps ds ∧ Vals dvs ds
/-- a method -/
structure CalM (P : Program) (w : World) (K : PySem.W.Frag) (mg : Str → Option Value) (base : Heap) (CX : CXT) (k : Nat) (C : Addr) (m : Str) (ps : List Str) (sp : Sp) : Prop where
  ex : ∃ (f : Addr) (fd : FuncData), Meth K C m f ∧ PySem.W.fnIn K f = true ∧ FnOk P w K mg base CX k f fd ps sp ∧ Binds K fd ps []
section
variable {X : Cx} {CX : CXT} {k : Nat} {x m : Str} {C : Addr} {ps : List Str} {sp : Sp} {dvs : List V} {E : XK} {e o : Expr} {es : List Expr} {t : TA} {p pos apos : Pos} {ta to ti : TE}
theorem pe_mkc (c : CalC X.prog X.w X.K X.mg X.base CX k x C ps sp dvs) (hr : Room (k + 1) X.A) (hx : Passes CX X E) (ha : PA X (e :: es) t) (hg : Gl X x := by rfl)
    (hdb : (x == ("__debug__" : Str)) = false := by decide) (he : starEach (e :: es) X.env = (false, eval e X.env) :: starEach es X.env := by rfl) (hpl : (backTo pos (starEach es X.env)).any (·.1) = false := by rfl) :
    PE X (.Call (.Name x p) (e :: es) [] pos) (tMake C sp dvs E t) := by
  obtain ⟨f, fd, ds, M, F, mm, b, v⟩ := c.ex
  exact pe_make M F hr hg mm b v hx ha hdb he hpl
theorem pe_mkc0 (c : CalC X.prog X.w X.K X.mg X.base CX k x C ps sp dvs) (hr : Room (k + 1) X.A) (hx : Passes CX X E) (hg : Gl X x := by rfl) (hdb : (x == ("__debug__" : Str)) = false := by decide) :
    PE X (.Call (.Name x p) [] [] pos) (tMake C sp dvs E tNil) := by
  obtain ⟨f, fd, ds, M, F, mm, b, v⟩ := c.ex
  exact pe_make0 M F hr hg mm b v hx hdb
theorem om_cmp {op : CmpOp} (K : PySem.W.Frag) (c : CalM X.prog X.w X.K X.mg X.base CX k C (cmpInfo op).2.1 ps sp) (hr : Room k X.A) (hx : Passes CX X E) (hop : ∀ a b, compareOp op a b = richCompare op a b := by exact fun _ _ => rfl) (h : X.K = K := by rfl) : OpR X (compareOp op) (rCmpO K C sp E) := by
  obtain ⟨f, fd, M, _, F, b⟩ := c.ex
  exact h ▸ op_cmpO M F hr b hx hop
theorem om_ne (K : PySem.W.Frag) (c : CalM X.prog X.w X.K X.mg X.base CX k C "__eq__" ps sp) (ne : PySem.W.findIn X.K (.ref C) "__ne__" = some (some (.builtin "object.__ne__"))) (mo : PySem.W.mroIn X.K C (.type "object") = some true)
    (hr : Room (k + 1) X.A) (hx : Passes CX X E) (h : X.K = K := by rfl) : OpR X (compareOp .NotEq) (rNeO K C sp E) := by
  obtain ⟨f, fd, M, _, F, b⟩ := c.ex
  exact h ▸ op_neO M ne mo F hr b hx
theorem om_bin {op : Operator} (c : CalM X.prog X.w X.K X.mg X.base CX k C (PySem.dunder op.info.2) ps sp) (sf : PySem.W.selfFirst X.K C = true) (hr : Room k X.A) (hx : Passes CX X E) : OpR X (binaryOp op) (rBinO C sp E) := by
  obtain ⟨f, fd, M, _, F, b⟩ := c.ex
  exact op_binO M sf F hr b hx
theorem om_in (c : CalM X.prog X.w X.K X.mg X.base CX k C "__contains__" ps sp) (hr : Room k X.A) (hx : Passes CX X E) : OpR X (compareOp .In) (rInO C false sp E) := by
  obtain ⟨f, fd, M, _, F, b⟩ := c.ex
  exact op_inO M F hr b hx
theorem om_notIn (c : CalM X.prog X.w X.K X.mg X.base CX k C "__contains__" ps sp) (hr : Room k X.A) (hx : Passes CX X E) : OpR X (compareOp .NotIn) (rInO C true sp E) := by
  obtain ⟨f, fd, M, _, F, b⟩ := c.ex
  exact op_notInO M F hr b hx
theorem om_len (c : CalM X.prog X.w X.K X.mg X.base CX k C "__len__" ps sp) (hr : Room (k + 1) X.A) (hx : Passes CX X E) : CallR X (.builtin "len") (rLenO C sp E) := by
  obtain ⟨f, fd, M, _, F, b⟩ := c.ex
  exact call_lenO M F hr b hx
theorem om_get {i : Expr} (c : CalM X.prog X.w X.K X.mg X.base CX k C "__getitem__" ps sp) (hr : Room (k + 1) X.A) (hx : Passes CX X E) (ho : PE X o to) (hi : PE X i ti)
    (hsl : ∀ x y, subscripted i true x y = runValue (.builtin "lifetime.subscript" ⟨[x, y], []⟩) := by intro _ _; with_unfolding_all rfl) : PE X (.Subscript o i pos) (tOp (rGetO C sp E) to ti) := by
  obtain ⟨f, fd, M, fn, F, b⟩ := c.ex
  exact pe_getO M fn F hr b hx ho hi hsl
theorem om_meth {pl : Sem Bool} (he : PE X o ta) (c : Cls X.K C) (cm : CalM X.prog X.w X.K X.mg X.base CX k C m ps sp) (hr : Room k X.A) (hx : Passes CX X E) (ha : PA X (e :: es) t)
    (hst : starEach (e :: es) X.env = (false, eval e X.env) :: starEach es X.env := by rfl) (hpl : (backTo pos (starEach es X.env)).any (·.1) = false := by rfl)
    (ht : eval (.Call (.Attribute o m apos) (e :: es) [] pos) X.env = (do
      let ov ← eval o X.env
      standAt apos.atName
      let (f, first) ← holding [ov] (getMethod ov m pl)
      callWith pos f first (backTo pos (starEach (e :: es) X.env)) (backToKw pos (keywordEach [] X.env))) := by rfl) :
    PE X (.Call (.Attribute o m apos) (e :: es) [] pos) (tMeth C m sp [] E ta t) := by
  obtain ⟨f, fd, M, fn, F, b⟩ := cm.ex
  exact pe_meth he c M F hr b .nil hx ha hst hpl ht
theorem om_meth0 {pl : Sem Bool} (he : PE X o ta) (c : Cls X.K C) (cm : CalM X.prog X.w X.K X.mg X.base CX k C m ps sp) (hr : Room k X.A) (hx : Passes CX X E)
    (ht : eval (.Call (.Attribute o m apos) [] [] pos) X.env = (do
      let ov ← eval o X.env
      standAt apos.atName
      let (f, first) ← holding [ov] (getMethod ov m pl)
      callWith pos f first (backTo pos (starEach [] X.env)) (backToKw pos (keywordEach [] X.env))) := by rfl) :
    PE X (.Call (.Attribute o m apos) [] [] pos) (tMeth C m sp [] E ta tNil) := by
  obtain ⟨f, fd, M, fn, F, b⟩ := cm.ex
  exact pe_meth0 he c M F hr b .nil hx ht
end
/-- c and b, where b is asked without a change of the heap -/
theorem and_then {c b : Bool} {σ : L2.St} {H : Hp} {tb : TE} {Q : VK} (ht : c = true → ∀ Q' : VK, Q' (.bl b) H → tb σ H Q') (k : Q (.bl (c && b)) H) : if c = true then tb σ H Q else Q (.bl false) H := by
  cases c with
  | true => exact iteT (ht rfl Q (by simpa using k))
  | false => exact iteF k
end Mf
/-! From the head's facts to calls. -/
namespace Mf
open PySem L2
theorem kit_self {K : PySem.W.Frag} {C : Addr} : PySem.W.kitOne K (.ref C) (.ref C) = some true := by unfold PySem.W.kitOne; rw [if_pos (by simp)]
theorem kit_own {K : PySem.W.Frag} {C : Addr} {T : String} {b : Bool} (i : PySem.W.isClsIn K C = true) (t : PySem.W.typeIn K (.ref C) = some (.type "type")) (s : PySem.W.subIn K (.type T) (.ref C) = some b) : PySem.W.kitOne K (.type T) (.ref C) = some b := by
  have i' : (PySem.W.clsIn K C).isSome = true := i
  unfold PySem.W.kitOne PySem.W.kitCls
  rw [if_neg (by simp)]
  show (if ((PySem.W.clsIn K C).isSome && PySem.W.typeIn K (.ref C) == some (.type "type")) = true then PySem.W.subIn K (.type T) (.ref C) else none) = some b
  rw [if_pos (by rw [i', t]; rfl)]
  exact s
theorem notFirst_of {K : PySem.W.Frag} {C : Addr} {T : String} (s : PySem.W.subIn K (.type T) (.ref C) = some false) : PySem.W.notFirst K C (.type T) = true := by
  unfold PySem.W.notFirst
  rw [s]; simp
/-- a def of the text as it stands behind the top -/
structure DefF (K : PySem.W.Frag) (x : Str) (st : Stmt) (f : Addr) : Prop where
  ex : ∃ (oc : Value) (od : Option Addr) (sl : Array (Option Value)) (kV dc pm : Value) (an : Option Addr) (cd ct : Value), PySem.W.nsIn K mainGlobals x = some (some (.ref f)) ∧
    K.lookup f = some ⟨oc, od, .func (PySem.W.fnOf x x (defArgs st) (defBody st) (defScope st) .none kV dc pm an cd ct), sl⟩ ∧ PySem.W.codeIn K cd x = true ∧ PySem.W.keepIn K (.ref f) = true
/-- a method of the class at C -/
structure MetF (K : PySem.W.Frag) (C : Addr) (m qual : Str) (st : Stmt) (f : Addr) : Prop where
  ex : ∃ (oc : Value) (od : Option Addr) (sl : Array (Option Value)) (kV dc pm : Value) (an : Option Addr) (cd ct : Value), PySem.W.findIn K (.ref C) m = some (some (.ref f)) ∧
    K.lookup f = some ⟨oc, od, .func (PySem.W.fnOf m qual (defArgs st) (defBody st) (defScope st) .none kV dc pm an cd ct), sl⟩ ∧ PySem.W.codeIn K cd qual = true ∧ PySem.W.keepIn K (.ref f) = true ∧ PySem.W.isFn K (.ref f) = true ∧ PySem.W.fnIn K f = true
section
variable {P : Program} {w : World} {K : PySem.W.Frag} {mg : Str → Option Value} {base h : Heap} {CX : CXT} {k : Nat} {x m qual : Str} {st : Stmt} {f C : Addr} {ps : List Str} {sp : Sp}
abbrev BindP (x qual : Str) (st : Stmt) (ps : List Str) : Prop := ∀ (kV doc pm : Value) (an : Option Addr) (cdv ct : Value) (us : List Value), us.length = ps.length → bindArgs (PySem.W.fnOf x qual (defArgs st) (defBody st) (defScope st) .none kV doc pm an cdv ct) ⟨us, []⟩ = pure (ps.zip us)
theorem DefF.cal (D : DefF K x st f) (X : K.In h) (G : h.Ns mainGlobals mg) (hb : BindP x x st ps) (ok : ∀ fd, Fun K x x st f fd → FnOk P w K mg base CX k f fd ps sp) : Cal P w K mg base CX k x ps sp := by
  obtain ⟨oc, od, sl, kV, dc, pm, an, cd, ct, a, l, c, q⟩ := D.ex
  have F := fun_mk (st := st) l c q
  exact ⟨⟨f, _, ok _ F, PySem.W.mg_of X G a, q, F.binds hb⟩⟩
theorem MetF.cal (D : MetF K C m qual st f) (hb : BindP m qual st ps) (ok : ∀ fd, Fun K m qual st f fd → FnOk P w K mg base CX k f fd ps sp) : CalM P w K mg base CX k C m ps sp := by
  obtain ⟨oc, od, sl, kV, dc, pm, an, cd, ct, a, l, c, q, i, n⟩ := D.ex
  have F := fun_mk (st := st) l c q
  exact ⟨⟨f, _, ⟨a, i, q⟩, n, ok _ F, F.binds hb⟩⟩
/-- the law itself -/
theorem DefF.law {fa : Addr} (D : DefF K "law" st f) (X : K.In h) (G : h.Ns mainGlobals mg) (hfa : mg "law" = some (.ref fa)) (hb : ∀ (kV doc pm : Value) (an : Option Addr) (cdv ct : Value) (s : Shared) (v : Value), BindsTo s (PySem.W.fnOf "law" "law" (defArgs st) (defBody st) (defScope st) .none kV doc pm an cdv ct) ⟨[v], []⟩ [("_law_script", v)])
    (ok : ∀ base : Heap, K.In base → base.Ns mainGlobals mg → ∀ fd, Fun K "law" "law" st f fd → FnOk P w K mg base CX0 k f fd ["_law_script"] sp) :
    ∃ fd : FuncData, (∀ (s : Shared) (v : Value), BindsTo s fd ⟨[v], []⟩ [("_law_script", v)]) ∧ ∀ base : Heap, K.In base → base.Ns mainGlobals mg → FnOk P w K mg base CX0 k fa fd ["_law_script"] sp := by
  obtain ⟨oc, od, sl, kV, dc, pm, an, cd, ct, a, l, c, q⟩ := D.ex
  have e := hfa.symm.trans (PySem.W.mg_of X G a)
  cases e
  exact ⟨_, hb kV dc pm an cd ct, fun base b1 b2 => ok base b1 b2 _ (fun_mk (st := st) l c q)⟩
/-- what a law takes and gives -/
def spLaw (K : PySem.W.Frag) : Sp := fun vs H Q _ => ∃ (a : Addr) (ns : List Int), vs = [.ref a] ∧ SqL K H a (ns.map V.int) ∧ ns.length ≤ 63 ∧ ∀ H', Q (.bl true) H'
end
theorem walk {n : Nat} {l : PySem.W.OpenLaw} {q : Program} {loose : List Str} {XP : (Str → Option Value) → Heap → Prop} {YP : World → Heap → Prop} {d : DefRec} {K : Params → PySem.W.Frag} (hn : l.most = some 63) (hdf : d.params.defaults = [])
    (hr : Room n callerA)
    (hY : ∀ (w : World) (h : Heap), YP w h → (K w.params).In h)
    (F : ∀ (w : World) (mg : Str → Option Value) (fa : Addr) (h : Heap), (K w.params).In h → h.Ns mainGlobals mg → mg d.name = some (.ref fa) →
      ∃ fd : FuncData, (∀ (s : Shared) (u : Value), BindsTo s fd ⟨[u], []⟩ [("_law_script", u)]) ∧ ∀ base : Heap, (K w.params).In base → base.Ns mainGlobals mg → FnOk l.prog w (K w.params) mg base CX0 n fa fd ["_law_script"] (spLaw (K w.params))) :
    PySem.W.WalkO q loose XP YP l.row.toRowW d [] (fun f vs => PySem.call f vs) :=
  L2.walk_of (n := 63) (k := n) (x := "_law_script") (CX := fun _ => CX0) (sp := fun w => spLaw (K w.params)) hn (by decide) hdf hr hY F (fun _ _ a ns hl _ hS => ⟨a, ns, rfl, hS, hl, fun _ => rfl⟩) fun _ _ _ _ _ z => z
end Mf
/-! Counting loops that begin at another number. -/
namespace Mf
open PySem L2

/-- what such a loop yields; G i H x: the i-th thing is x -/
def ItN (k₀ : Int) (go : Nat → Hp → Prop) (stop : Nat → Hp → Prop) (is : Nat → Hp → V → Prop) : It :=
  { go := go, stop := stop, yld := fun i H v H' => ∃ T x, v = .ref T ∧ H T = none ∧ H' = upd H T (.tup [.int (k₀ + i), x]) ∧ is i H x }

/-- the turns, over any source that draws -/
theorem turn_from {P : Program} {w : World} {K : W.Frag} {elts : List PySem.Expr} {kk : Nat} {tpos : Pos} (k₀ : Int) (e it : Addr)
    {go stop : Nat → Hp → Prop} {is : Nat → Hp → V → Prop} {SI : Nat → Heap → Prop}
    (obj : ∀ i h, SI i h → ∃ o, h.get? it = some o ∧ ∀ v : Option Value, o.data ≠ .cell v)
    (keep : ∀ i h h', SI i h → (∀ o, h.get? it = some o → h'.get? it = some o) → SI i h')
    (src : ∀ (X : Cx), X.prog = P → X.w = w → X.K = K → X.calm = true → ∀ (i : Nat) (pins : List (Addr × Obj)) (s : Shared) (σ : St) (H : Hp),
      L2.Inv X pins σ H s → (∀ b ∈ [e, it], FpOk X pins H b) → (∃ old, IsEnum s.heap e it (k₀ + i) old) → SI i s.heap → e ≠ it → (go i H ∨ stop i H) →
      ∃ (n : Nat) (fp : List Addr) (S : Nat → Heap → Prop) (Q : Nat → Value → Prop), Draws P w (Around.in1 X.A) it fp n Q S ∧ S i s.heap ∧ e ∉ fp ∧
        (go i H → i < n) ∧ (stop i H → i = n) ∧ (∀ h, S (i + 1) h → SI (i + 1) h) ∧ ∀ v, Q i v → go i H → ∃ x, RelV x v ∧ is i H x) :
    Turn P w K (.Tuple elts kk tpos) (ItN k₀ go stop is) [e, it] e fun i h => (∃ old, IsEnum h e it (k₀ + i) old) ∧ SI i h ∧ e ≠ it := by
  have mE : e ∈ [e, it] := List.mem_cons_self
  have mI : it ∈ [e, it] := List.mem_cons_of_mem _ List.mem_cons_self
  refine ⟨mE, ?_, ?_, ?_, ?_, ?_⟩
  · rintro i h ⟨⟨old, he⟩, hi, ne⟩ b hb
    simp only [List.mem_cons, List.not_mem_nil, or_false] at hb
    rcases hb with rfl | rfl
    · exact ⟨_, he, fun v q => nomatch q⟩
    · exact obj i h hi
  · rintro i h h' ⟨⟨old, he⟩, hi, ne⟩ k
    exact ⟨⟨old, k e mE _ he⟩, keep i h h' hi (k it mI), ne⟩
  · rintro X hP hw hK hc i pins s σ H E I hf ⟨⟨old, he⟩, hi, ne⟩ hg
    obtain ⟨n, fp, S, Q, D, s0, nf, lt, -, fw, rel⟩ := src X hP hw hK hc i pins s σ H I hf ⟨old, he⟩ hi ne (.inl hg)
    refine wpAny_pyNext_enum_itemC D he s0 (lt hg) ne nf fun x h' tk qx ho hS hT hsz hk => ?_
    refine ⟨_, rfl, wpAny_letOwnedTupleGo_enum ho fun h'' he' sb => ?_⟩
    obtain ⟨y, ry, iy⟩ := rel x qx hg
    have hel := Heap.lt_size he
    have hil : it < s.heap.objs.size := by obtain ⟨o, q, _⟩ := obj i _ hi; exact Heap.lt_size q
    have hT2 := (sb.right s.heap.objs.size (Nat.ne_of_gt hel)).trans hT
    have new : ObjOk X.prog X.w (upd H s.heap.objs.size (.tup [.int (k₀ + i), y])) h'' s.heap.objs.size (.tup [.int (k₀ + i), y]) :=
      ⟨(by show 2 ≤ sizeLine; decide), [.int (k₀ + i) tk, x], .cons ⟨tk, rfl⟩ (.cons ry .nil), _, hT2, rfl, 0, rfl⟩
    have I1 := I.turnedNew (t' := tk + 1) (fun b ob hb q => (sb.right b fun z => hb (z ▸ mE)).trans (hk b ob (fun z => hb (z ▸ mE)) (fun z => hb (z ▸ mI)) q)) hf (Nat.le_refl _) new
    refine ⟨.ref s.heap.objs.size, _, I1, rfl, ⟨_, y, rfl, I.hok.fresh (Nat.le_refl _), rfl, iy⟩, ⟨⟨x, ?_⟩, ?_, ne⟩, ?_⟩
    · have e1 : k₀ + ((i + 1 : Nat) : Int) = k₀ + i + 1 := by omega
      rw [e1]; exact he'
    · exact keep (i + 1) h' h'' (fw _ hS) fun o q => (sb.right it (Ne.symm ne)).trans q
    · intro b hb
      have hb' : b < s.heap.objs.size := by
        simp only [List.mem_cons, List.not_mem_nil, or_false] at hb
        rcases hb with rfl | rfl <;> assumption
      rw [upd_ne (Nat.ne_of_lt hb')]
      exact (hf b hb).1
  · rintro X hP hw hK hc i pins s σ H E I hf ⟨⟨old, he⟩, hi, ne⟩ hg
    obtain ⟨n, fp, S, Q, D, s0, nf, -, eq, -, -⟩ := src X hP hw hK hc i pins s σ H I hf ⟨old, he⟩ hi ne (.inr hg)
    obtain ⟨f0, f1, f2, f3, f4, f5⟩ := hf it mI
    have hin := eq hg
    subst hin
    exact wpAny_pyNext_enum_endD D he s0 fun h' eb => ⟨rfl, I.turned (fun b o hb q => eb b o hb q) f0 f1 f3 f4 f5⟩
  · rintro A i s Q E ⟨⟨old, he⟩, _⟩ h
    exact wpAny_pyIter_enum he h
end Mf
namespace Mf
open PySem L2
theorem callType_kw {M : Model} {A : Around} {E : Value → Shared → Prop} {s : Shared} {env : Env} {pos : Pos} {T : String} {e : Expr} {rest : List Expr} {kws : List Keyword} {Q : Value → Shared → Prop}
    (h : wpAny M A (spliced (backTo pos (starEach (e :: rest) env))) (fun vs s₁ => wpAny M A (evalAll ((backToKw pos (keywordEach kws env)).map (·.2)))
      (fun ks s₂ => wpAny M A (call (.type T) vs (((backToKw pos (keywordEach kws env)).filterMap (·.1)).zip ks)) Q E s₂) E s₁) E s)
    (h0 : backTo pos (starEach (e :: rest) env) = (false, eval e env) :: backTo pos (starEach rest env))
    (h1 : (backTo pos (starEach (e :: rest) env)).any (·.1) = false) (h2 : (backToKw pos (keywordEach kws env)).all (fun x => x.1.isSome) = true)
    (h3 : (backToKw pos (keywordEach kws env)).any (fun x => x.1.isNone) = false) :
    wpAny M A (callWith pos (.type T) [] (backTo pos (starEach (e :: rest) env)) (backToKw pos (keywordEach kws env))) Q E s := by
  rw [h0] at h h1 ⊢
  unfold callWith
  refine wpAny_bind (wpAny_holding (evalArgs_kw h2 (wpAny_mono h ?_ fun _ _ q => q)))
  intro vs s1 h
  refine wpAny_mono h ?_ fun _ _ q => q
  intro ks s2 h
  rw [h1, h3]
  refine wpAny_bind (wpAny_standAt ?_)
  refine wpAny_bind (wpAny_pure ?_)
  refine wpAny_bind (wpAny_mono h ?_ fun _ _ q => q)
  intro v s3 q
  exact wpAny_bind (wpAny_holding (wpAny_point (wpAny_pure q)))

/-- enumerate(.., start=k₀) over a list or a tuple -/
def iEnumS (K : W.Frag) (k₀ : Int) (te : TA) : TI := fun σ H R => te σ H fun vs H1 => ∃ (a : Addr) (xs : List V), vs = [.ref a] ∧
  ((SqL K H1 a xs ∧ R (ItN k₀ (fun i H => ∃ xs x, SqL K H a xs ∧ xs[i]? = some x) (fun i H => ∃ xs, SqL K H a xs ∧ xs.length = i) fun i H x => ∀ xs, SqL K H a xs → xs[i]? = some x) H1) ∨
   (SqT K H1 a xs ∧ R (ItN k₀ (fun i H => ∃ xs x, SqT K H a xs ∧ xs[i]? = some x) (fun i H => ∃ xs, SqT K H a xs ∧ xs.length = i) fun i H x => ∀ xs, SqT K H a xs → xs[i]? = some x) H1))
theorem back_get {xs : List V} {us : List Value} (r : Vals xs us) {i : Nat} {u : Value} (h : us[i]? = some u) : ∃ x, RelV x u ∧ xs[i]? = some x := by
  have hi : i < us.length := by
    rcases Nat.lt_or_ge i us.length with q | q
    · exact q
    · rw [List.getElem?_eq_none q] at h; cases h
  rw [← r.length] at hi
  obtain ⟨u', hu, ru⟩ := Vals.get r (List.getElem?_eq_getElem hi)
  rw [h] at hu
  cases hu
  exact ⟨_, ru, List.getElem?_eq_getElem hi⟩
theorem turn_fromL {P : Program} {w : World} {K : W.Frag} {elts : List Expr} {kk : Nat} {tpos : Pos} (k₀ : Int) (e it a : Addr) :
    Turn P w K (.Tuple elts kk tpos) (ItN k₀ (fun i H => ∃ xs x, SqL K H a xs ∧ xs[i]? = some x) (fun i H => ∃ xs, SqL K H a xs ∧ xs.length = i) fun i H x => ∀ xs, SqL K H a xs → xs[i]? = some x) [e, it] e
      fun i h => (∃ old, IsEnum h e it (k₀ + i) old) ∧ Heap.IsListIter h it a i ∧ e ≠ it := by
  refine turn_from k₀ e it ?_ ?_ ?_
  · rintro i h ⟨o, ho, hc, hd⟩
    exact ⟨o, ho, fun v q => by rw [hd] at q; cases q⟩
  · intro i h h' q k
    exact q.at fun o z => k o z
  · rintro X rfl rfl rfl hc i pins s σ H I hf ⟨old, he⟩ hi ne hg
    have key : ∀ xs, SqL X.K H a xs → ∃ (n : Nat) (fp : List Addr) (S : Nat → Heap → Prop) (Q : Nat → Value → Prop), Draws X.prog X.w (Around.in1 X.A) it fp n Q S ∧ S i s.heap ∧ e ∉ fp ∧
        n = xs.length ∧ (∀ h, S (i + 1) h → Heap.IsListIter h it a (i + 1)) ∧ ∀ v, Q i v → ∃ x, RelV x v ∧ xs[i]? = some x := by
      intro xs hq
      obtain ⟨its, rv, p, hz⟩ := I.list hq
      have pl := p.isList
      have n1 : a ≠ it := fun q => by
        obtain ⟨o, ho, hc, _⟩ := pl
        obtain ⟨o', ho', hc', _⟩ := hi
        rw [q, ho'] at ho; cases ho; rw [hc'] at hc; injection hc with hc; exact absurd hc (by decide)
      have n2 : a ≠ e := fun q => by
        obtain ⟨o, ho, hc, _⟩ := pl
        have he' : s.heap.get? e = _ := he
        rw [q, he'] at ho; cases ho; injection hc with hc; exact absurd hc (by decide)
      refine ⟨_, _, _, _, Draws.list (show (Around.in1 X.A).handled = none from I.ok.hd hc) it a n1 its.toArray, ⟨hi, pl⟩, ?_, ?_, fun h q => q.1, ?_⟩
      · intro q
        simp only [List.mem_cons, List.not_mem_nil, or_false] at q
        rcases q with q | q
        · exact ne q
        · exact n2 q.symm
      · rw [List.size_toArray, rv.length]
      · intro v hv
        have hv : its[i]? = some v := by rw [← List.getElem?_toArray]; exact hv
        exact back_get rv hv
    rcases hg with ⟨xs, x, hq, hx⟩ | ⟨xs, hq, hx⟩
    · obtain ⟨n, fp, S, Q, D, s0, nf, hn, fw, rel⟩ := key xs hq
      refine ⟨n, fp, S, Q, D, s0, nf, fun _ => ?_, ?_, fw, fun v qv _ => ?_⟩
      · rw [hn]
        rcases Nat.lt_or_ge i xs.length with q | q
        · exact q
        · rw [List.getElem?_eq_none q] at hx; cases hx
      · rintro ⟨ys, hy, rfl⟩
        rw [hn, I.list_inj hq hy]
      · obtain ⟨x', rx, hx'⟩ := rel v qv
        exact ⟨x', rx, fun ys hy => by rw [I.list_inj hy hq]; exact hx'⟩
    · obtain ⟨n, fp, S, Q, D, s0, nf, hn, fw, rel⟩ := key xs hq
      refine ⟨n, fp, S, Q, D, s0, nf, ?_, fun _ => by rw [hn, hx], fw, fun v qv _ => ?_⟩
      · rintro ⟨ys, y, hy, hyi⟩
        rw [I.list_inj hy hq, List.getElem?_eq_none (by omega)] at hyi; cases hyi
      · obtain ⟨x', rx, hx'⟩ := rel v qv
        exact ⟨x', rx, fun ys hy => by rw [I.list_inj hy hq]; exact hx'⟩
theorem isTuple_of {h : Heap} {a : Addr} {its : Array Value} (p : PyProof.Rows.IsTup h a its) : Heap.IsTuple h a its := p
theorem turn_fromT {P : Program} {w : World} {K : W.Frag} {elts : List Expr} {kk : Nat} {tpos : Pos} (k₀ : Int) (e it a : Addr) :
    Turn P w K (.Tuple elts kk tpos) (ItN k₀ (fun i H => ∃ xs x, SqT K H a xs ∧ xs[i]? = some x) (fun i H => ∃ xs, SqT K H a xs ∧ xs.length = i) fun i H x => ∀ xs, SqT K H a xs → xs[i]? = some x) [e, it] e
      fun i h => (∃ old, IsEnum h e it (k₀ + i) old) ∧ Heap.IsTupleIter h it a i ∧ e ≠ it := by
  refine turn_from k₀ e it ?_ ?_ ?_
  · rintro i h ⟨o, ho, hc, hd⟩
    exact ⟨o, ho, fun v q => by rw [hd] at q; cases q⟩
  · intro i h h' q k
    exact q.at fun o z => k o z
  · rintro X rfl rfl rfl hc i pins s σ H I hf ⟨old, he⟩ hi ne hg
    have key : ∀ xs, SqT X.K H a xs → ∃ (n : Nat) (fp : List Addr) (S : Nat → Heap → Prop) (Q : Nat → Value → Prop), Draws X.prog X.w (Around.in1 X.A) it fp n Q S ∧ S i s.heap ∧ e ∉ fp ∧
        n = xs.length ∧ (∀ h, S (i + 1) h → Heap.IsTupleIter h it a (i + 1)) ∧ ∀ v, Q i v → ∃ x, RelV x v ∧ xs[i]? = some x := by
      intro xs hq
      obtain ⟨its, rv, p, hz⟩ := I.tuple hq
      have pl := isTuple_of p
      have n1 : a ≠ it := fun q => by
        obtain ⟨o, ho, hc, _⟩ := pl
        obtain ⟨o', ho', hc', _⟩ := hi
        rw [q, ho'] at ho; cases ho; rw [hc'] at hc; injection hc with hc; exact absurd hc (by decide)
      have n2 : a ≠ e := fun q => by
        obtain ⟨o, ho, hc, _⟩ := pl
        have he' : s.heap.get? e = _ := he
        rw [q, he'] at ho; cases ho; injection hc with hc; exact absurd hc (by decide)
      refine ⟨_, _, _, _, Draws.tuple (show (Around.in1 X.A).handled = none from I.ok.hd hc) it a n1 its.toArray, ⟨hi, pl⟩, ?_, ?_, fun h q => q.1, ?_⟩
      · intro q
        simp only [List.mem_cons, List.not_mem_nil, or_false] at q
        rcases q with q | q
        · exact ne q
        · exact n2 q.symm
      · rw [List.size_toArray, rv.length]
      · intro v hv
        have hv : its[i]? = some v := by rw [← List.getElem?_toArray]; exact hv
        exact back_get rv hv
    rcases hg with ⟨xs, x, hq, hx⟩ | ⟨xs, hq, hx⟩
    · obtain ⟨n, fp, S, Q, D, s0, nf, hn, fw, rel⟩ := key xs hq
      refine ⟨n, fp, S, Q, D, s0, nf, fun _ => ?_, ?_, fw, fun v qv _ => ?_⟩
      · rw [hn]
        rcases Nat.lt_or_ge i xs.length with q | q
        · exact q
        · rw [List.getElem?_eq_none q] at hx; cases hx
      · rintro ⟨ys, hy, rfl⟩
        rw [hn, I.tuple_inj hq hy]
      · obtain ⟨x', rx, hx'⟩ := rel v qv
        exact ⟨x', rx, fun ys hy => by rw [I.tuple_inj hy hq]; exact hx'⟩
    · obtain ⟨n, fp, S, Q, D, s0, nf, hn, fw, rel⟩ := key xs hq
      refine ⟨n, fp, S, Q, D, s0, nf, ?_, fun _ => by rw [hn, hx], fw, fun v qv _ => ?_⟩
      · rintro ⟨ys, y, hy, hyi⟩
        rw [I.tuple_inj hy hq, List.getElem?_eq_none (by omega)] at hyi; cases hyi
      · obtain ⟨x', rx, hx'⟩ := rel v qv
        exact ⟨x', rx, fun ys hy => by rw [I.tuple_inj hy hq]; exact hx'⟩
theorem pi_enumS {X : Cx} {e : Expr} {ta : TA} {p pos tpos kp cq : Pos} {cp : Nat} {elts : List Expr} {kk : Nat} {k₀ : Int} (hg : Gl X "enumerate") (hm : X.mg "enumerate" = none) (ha : PA X [e] ta)
    (b0 : -2 ^ 63 ≤ k₀) (b1 : k₀ < 2 ^ 63)
    (h0 : backTo pos (starEach [e] X.env) = (false, eval e X.env) :: backTo pos (starEach [] X.env) := by rfl)
    (h1 : (backTo pos (starEach [e] X.env)).any (·.1) = false := by rfl) :
    PI X (.Tuple elts kk tpos) (.Call (.Name "enumerate" p) [e] [⟨some "start", .Constant (.int k₀) cp cq, kp⟩] pos) (iEnumS X.K k₀ ta) := by
  refine ⟨fun pins s σ H R I h => wpAny_Call_Name_kw (ld_blt I hg hm PyProof.Rows.boot_enumerate (callType_kw (thn (ha.run pos pins s σ H _ I h) ?_) h0 h1 rfl rfl))⟩
  rintro us s1 ⟨vs, H1, I1, r1, q1⟩
  have pk : PK X [⟨some "start", .Constant (.int k₀) cp cq, kp⟩] (tCons (tC (.int k₀)) tNil) := pk_cons pe_int pk_nil
  refine thn (pk.run pos pins s1 σ H1 (fun zs H' => zs = [.int k₀] ∧ H' = H1) I1 ⟨rfl, rfl⟩) ?_
  rintro ks s2 ⟨zs, H2, I2, r2, rfl, rfl⟩
  match ks, r2 with
  | [_], .cons ⟨t, ht⟩ .nil =>
    subst ht
    obtain ⟨a, xs, rfl, q1⟩ := q1
    match us, r1 with
    | [_], .cons ra .nil =>
      have ra : _ = Value.ref a := ra
      subst ra
      rcases q1 with ⟨hq, q⟩ | ⟨hq, q⟩
      · obtain ⟨its, rv, p', hz⟩ := I2.list hq
        refine enum_begins_start (begins_list a its.toArray) p'.isList b0 b1 fun h' he ho hsz hk => ?_
        refine wpAny_pyIter_enum he ?_
        have I3 := I2.kept (t' := s2.toks) hk
        refine ⟨_, [s2.heap.objs.size + 1, s2.heap.objs.size], _, _, H2, rfl, I3, turn_fromL k₀ _ _ a, ⟨⟨_, by simpa using he⟩, ⟨_, ho, rfl, rfl⟩, Nat.succ_ne_self _⟩, ?_, q⟩
        intro b hb
        simp only [List.mem_cons, List.not_mem_nil, or_false] at hb
        rcases hb with rfl | rfl
        · exact I2.fpOk (Nat.le_succ _) (I2.hok.fresh (Nat.le_succ _))
        · exact I2.fpOk (Nat.le_refl _) (I2.hok.fresh (Nat.le_refl _))
      · obtain ⟨its, rv, p', hz⟩ := I2.tuple hq
        refine enum_begins_start (begins_tuple a its.toArray) (isTuple_of p') b0 b1 fun h' he ho hsz hk => ?_
        refine wpAny_pyIter_enum he ?_
        have I3 := I2.kept (t' := s2.toks) hk
        refine ⟨_, [s2.heap.objs.size + 1, s2.heap.objs.size], _, _, H2, rfl, I3, turn_fromT k₀ _ _ a, ⟨⟨_, by simpa using he⟩, ⟨_, ho, rfl, rfl⟩, Nat.succ_ne_self _⟩, ?_, q⟩
        intro b hb
        simp only [List.mem_cons, List.not_mem_nil, or_false] at hb
        rcases hb with rfl | rfl
        · exact I2.fpOk (Nat.le_succ _) (I2.hok.fresh (Nat.le_succ _))
        · exact I2.fpOk (Nat.le_refl _) (I2.hok.fresh (Nat.le_refl _))
theorem walk_enumSL {K : W.Frag} {k₀ : Int} {a : Addr} {xs : List V} :
    Walk (ItN k₀ (fun i H => ∃ xs x, SqL K H a xs ∧ xs[i]? = some x) (fun i H => ∃ xs, SqL K H a xs ∧ xs.length = i) fun i H x => ∀ xs, SqL K H a xs → xs[i]? = some x) xs.length (fun H => SqL K H a xs)
      (YPair (fun i => some (.int (k₀ + i))) fun i => xs[i]?) where
  goes := fun i H hi h => ⟨xs, xs[i], h, List.getElem?_eq_getElem hi⟩
  stops := fun H h => ⟨xs, h, rfl⟩
  yields := by
    rintro i H x H' hi h ⟨T, y, rfl, hT, rfl, hy⟩
    exact ⟨T, _, y, rfl, hT, rfl, rfl, hy xs h⟩
theorem walk_enumST {K : W.Frag} {k₀ : Int} {a : Addr} {xs : List V} :
    Walk (ItN k₀ (fun i H => ∃ xs x, SqT K H a xs ∧ xs[i]? = some x) (fun i H => ∃ xs, SqT K H a xs ∧ xs.length = i) fun i H x => ∀ xs, SqT K H a xs → xs[i]? = some x) xs.length (fun H => SqT K H a xs)
      (YPair (fun i => some (.int (k₀ + i))) fun i => xs[i]?) where
  goes := fun i H hi h => ⟨xs, xs[i], h, List.getElem?_eq_getElem hi⟩
  stops := fun H h => ⟨xs, h, rfl⟩
  yields := by
    rintro i H x H' hi h ⟨T, y, rfl, hT, rfl, hy⟩
    exact ⟨T, _, y, rfl, hT, rfl, rfl, hy xs h⟩
end Mf
namespace Mf
open PySem L2
theorem next_val {prog : Program} {w : World} {A : Around} {E : Value → Shared → Prop} {s : Shared} {it d : Addr} {i ep : Nat} {es : Array DictEntry} {Q : Value → Shared → Prop}
    (hi : Heap.IsValIter s.heap it d i es.size ep) (hd : Heap.DictRaw s.heap d es ep) (hlt : i < es.size)
    (h : ∀ h' : Heap, Heap.IsValIter h' it d (i + 1) es.size ep → Heap.SameBut it s.heap h' → Q es[i].val { s with heap := h' }) :
    wpAny (model prog w) A (Builtin.SmallTypes.nextOf (.ref it)) Q E s := by
  unfold Builtin.SmallTypes.nextOf
  refine wpAny_bind (wpAny_callSpecial?_slot hi.typeIs F.slot_dict_valueiterator_next ?_)
  refine wpAny_call_entry F.slot_dict_valueiterator_next hi.typeIs F.entry_dict_valueiterator_next ?_ (F.args_dict_valueiterator_next_1 _)
  unfold Builtin.«dict_valueiterator.__next__»
  have ty := hi.typeIs
  obtain ⟨o, ho, hc, hdat⟩ := hi
  obtain ⟨od, hod, -, hodd⟩ := hd
  refine wpAny_bind (wpAny_of_eq (a := .ref it) rfl ?_)
  refine wpAny_bind ?_
  refine wpAny_bind (wpAny_bind (wpAny_typeNameOfWhole_valiter ty (wpAny_pure ?_)))
  refine wpAny_bind (wpAny_fieldsOf ho hdat ?_)
  have ow : (if Builtin.Dict_items.ownsTuple "dict_valueiterator" = true then 2 else 0) = 0 := by decide +kernel
  rw [ow]
  refine wpAny_ite_false (by rfl) ?_
  refine wpAny_bind (wpAny_of_eq (a := d) rfl ?_)
  refine wpAny_bind (wpAny_dictEntries hod hodd ?_)
  refine wpAny_ite_false (by simp) ?_
  refine wpAny_bind (wpAny_of_eq (a := d) rfl ?_)
  refine wpAny_bind (wpAny_dictEpoch hod hodd ?_)
  refine wpAny_ite_false (by simp) ?_
  refine wpAny_pure ?_
  have e2 : (if ((i : Nat) : Int) < 0 then none else es[((i : Nat) : Int).toNat]?) = some es[i] := by
    rw [if_neg (by omega)]
    show es[i]? = _
    rw [Array.getElem?_eq_getElem hlt]
  dsimp only
  rw [e2]
  dsimp only
  refine wpAny_bind (wpAny_bind (wpAny_typeNameOfWhole_valiter ty (wpAny_pure ?_)))
  refine wpAny_bind (wpAny_isOneOf_valiter ty ?_)
  rw [ow]
  refine wpAny_bind (wpAny_setField ho hdat (by show 1 < 4; decide) ?_)
  rw [if_neg (by decide +kernel)]
  have sb := Heap.SameBut.update s.heap it (Obj.mapFields fun x => x.setIfInBounds (0 + 1) (rawInt ((i : Int) + 1)))
  have hn : Heap.IsValIter (s.heap.update it (Obj.mapFields fun x => x.setIfInBounds (0 + 1) (rawInt ((i : Int) + 1)))) it d (i + 1) es.size ep := by
    have dm := Obj.data_mapFields hdat fun x => x.setIfInBounds (0 + 1) (rawInt ((i : Int) + 1))
    refine ⟨_, Heap.get?_update_self _ ho (Obj.isFreed_of_fields dm), ?_, ?_⟩
    · rw [Obj.cls_mapFields]; exact hc
    · rw [dm]
      simp [rawInt]
  generalize s.heap.update it (Obj.mapFields fun x => x.setIfInBounds (0 + 1) (rawInt ((i : Int) + 1))) = h2 at sb hn ⊢
  have ty2 : Shared.TypeIs { s with heap := h2 } (.ref it) "dict_valueiterator" := hn.typeIs
  refine wpAny_bind (wpAny_holding (wpAny_bind (wpAny_isOneOf_valiter ty2 ?_)))
  refine wpAny_ite_false (by decide +kernel) ?_
  refine wpAny_bind (wpAny_isOneOf_valiter ty2 ?_)
  refine wpAny_ite_true (by decide +kernel) ?_
  refine wpAny_pure ?_
  refine wpAny_pure ⟨_, rfl, ?_⟩
  exact wpAny_pure (h h2 hn sb)
theorem next_val_end {prog : Program} {w : World} {A : Around} {E : Value → Shared → Prop} {s : Shared} {it d : Addr} {ep : Nat} {es : Array DictEntry} {Q : Value → Shared → Prop}
    (hh : A.handled = none) (hi : Heap.IsValIter s.heap it d es.size es.size ep) (hd : Heap.DictRaw s.heap d es ep)
    (h : ∀ (h' : Heap) (e : Addr), Heap.ExtBut it s.heap h' → (∃ o, h'.get? e = some o ∧ o.cls = .type "StopIteration") → E (.ref e) { s with heap := h' }) :
    wpAny (model prog w) A (Builtin.SmallTypes.nextOf (.ref it)) Q E s := by
  unfold Builtin.SmallTypes.nextOf
  refine wpAny_bind (wpAny_callSpecial?_slot hi.typeIs F.slot_dict_valueiterator_next ?_)
  refine wpAny_call_entry F.slot_dict_valueiterator_next hi.typeIs F.entry_dict_valueiterator_next ?_ (F.args_dict_valueiterator_next_1 _)
  unfold Builtin.«dict_valueiterator.__next__»
  have ty := hi.typeIs
  obtain ⟨o, ho, hc, hdat⟩ := hi
  obtain ⟨od, hod, -, hodd⟩ := hd
  refine wpAny_bind (wpAny_of_eq (a := .ref it) rfl ?_)
  refine wpAny_bind ?_
  refine wpAny_bind (wpAny_bind (wpAny_typeNameOfWhole_valiter ty (wpAny_pure ?_)))
  refine wpAny_bind (wpAny_fieldsOf ho hdat ?_)
  have ow : (if Builtin.Dict_items.ownsTuple "dict_valueiterator" = true then 2 else 0) = 0 := by decide +kernel
  rw [ow]
  refine wpAny_ite_false (by rfl) ?_
  refine wpAny_bind (wpAny_of_eq (a := d) rfl ?_)
  refine wpAny_bind (wpAny_dictEntries hod hodd ?_)
  refine wpAny_ite_false (by simp) ?_
  refine wpAny_bind (wpAny_of_eq (a := d) rfl ?_)
  refine wpAny_bind (wpAny_dictEpoch hod hodd ?_)
  refine wpAny_ite_false (by simp) ?_
  refine wpAny_pure ?_
  have e2 : (if ((es.size : Nat) : Int) < 0 then none else es[((es.size : Nat) : Int).toNat]?) = none := by
    rw [if_neg (by omega)]
    show es[es.size]? = _
    exact Array.getElem?_eq_none (Nat.le_refl _)
  dsimp only
  rw [e2]
  dsimp only
  refine wpAny_bind (wpAny_bind (wpAny_typeNameOfWhole_valiter ty (wpAny_pure ?_)))
  rw [ow]
  refine wpAny_bind (wpAny_setField ho hdat (by show 0 < 4; decide) ?_)
  have sb := Heap.SameBut.update s.heap it (Obj.mapFields fun x => x.setIfInBounds 0 Value.none)
  generalize s.heap.update it (Obj.mapFields fun x => x.setIfInBounds 0 Value.none) = h2 at sb ⊢
  unfold newExc newTuple
  refine wpAny_bind (wpAny_bind (wpAny_newObj_type ?_ (by show 0 ≤ sizeLine; decide)))
  refine wpAny_bind (wpAny_of_eq (a := .none) rfl ?_)
  refine wpAny_newObj_type ?_ (sizeOk_excFields _ _ _ _ _ _ _ _)
  refine wpAny_raiseNew_none (show (Around.in1 A).handled = none from hh) ?_
  exact h _ _ ((sb.extBut.push _).push _) ⟨_, Heap.get?_push_size _ rfl, rfl⟩
theorem draws_val {prog : Program} {w : World} {A : Around} (hh : A.handled = none) (it d : Addr) (ne : d ≠ it) (es : Array DictEntry) (ep : Nat) :
    Draws prog w A it [it, d] es.size (fun i v => ∃ e, es[i]? = some e ∧ v = e.val) fun i h => Heap.IsValIter h it d i es.size ep ∧ Heap.DictRaw h d es ep where
  live := fun i h q => let ⟨o, ho, _⟩ := q.1; ⟨o, ho⟩
  frame := fun i h h' q k => ⟨q.1.at fun o z => k it (by simp) o z, let ⟨o, ho, r⟩ := q.2; ⟨o, k d (by simp) o ho, r⟩⟩
  item := fun i s Q E hi q f => next_val q.1 q.2 hi fun h' x sb => f _ h' s.toks ⟨_, Array.getElem?_eq_getElem hi, rfl⟩
    ⟨x, let ⟨o, ho, r⟩ := q.2; ⟨o, (sb.right d ne).trans ho, r⟩⟩ sb
  done := fun s Q E q f => next_val_end hh q.1 q.2 fun h' e a b => f h' e a b
end Mf
namespace Mf
open PySem L2
abbrev ItV (k₀ : Int) (d : Addr) (o : Obj) (kvs : List (Key × V)) : It :=
  ItN k₀ (fun i H => H d = some (.frz o (.dK kvs)) ∧ i < kvs.length) (fun i H => H d = some (.frz o (.dK kvs)) ∧ kvs.length = i) fun i _ x => ∃ k, kvs[i]? = some (k, x)
theorem pairs_val {prog : Program} {w : World} {knd : KeyKind prog w Key} {es : List DictEntry} {vs : List (Key × Value)} (h : Pairs knd es vs) :
    es.length = vs.length ∧ ∀ (i : Nat) (e : DictEntry), es[i]? = some e → ∃ p, vs[i]? = some p ∧ e.val = p.2 := by
  induction h with
  | nil => exact ⟨rfl, fun i e h => by simp at h⟩
  | cons a b r ih =>
    refine ⟨by rw [List.length_cons, List.length_cons, ih.1], fun i e h => ?_⟩
    match i, h with
    | 0, h =>
      cases h
      exact ⟨_, rfl, b⟩
    | i + 1, h => exact ih.2 i e h
theorem kv_back {kvs : List (Key × V)} {vs : List (Key × Value)} (r : KV kvs vs) {i : Nat} {p : Key × Value} (h : vs[i]? = some p) : ∃ x, RelV x p.2 ∧ ∃ k, kvs[i]? = some (k, x) := by
  have l := Paired.length r
  have hi : i < kvs.length := by
    rcases Nat.lt_or_ge i kvs.length with q | q
    · exact q
    · rw [List.getElem?_eq_none (by omega)] at h; cases h
  obtain ⟨u, hu, ru⟩ := kv_get r (k := kvs[i].1) (v := kvs[i].2) (List.getElem?_eq_getElem hi)
  rw [h] at hu
  cases hu
  exact ⟨_, ru, _, List.getElem?_eq_getElem hi⟩
theorem turn_fromV {P : Program} {w : World} {K : W.Frag} {elts : List Expr} {kk : Nat} {tpos : Pos} (k₀ : Int) (e it d : Addr) {o : Obj} {es : Array DictEntry} {ep : Nat} {kvs : List (Key × V)} (hod : o.data = .dict es ep) :
    Turn P w K (.Tuple elts kk tpos) (ItV k₀ d o kvs) [e, it] e
      fun i h => (∃ old, IsEnum h e it (k₀ + i) old) ∧ Heap.IsValIter h it d i kvs.length ep ∧ e ≠ it := by
  refine turn_from k₀ e it ?_ ?_ ?_
  · rintro i h ⟨o, ho, hc, hd⟩
    exact ⟨o, ho, fun v q => by rw [hd] at q; cases q⟩
  · intro i h h' q k
    exact q.at fun o z => k o z
  · rintro X rfl rfl rfl hc i pins s σ H I hf ⟨old, he⟩ hi ne hg
    have hH : H d = some (.frz o (.dK kvs)) := hg.elim (·.1) (·.1)
    obtain ⟨hs, hgd, hx, es', ep', vs, hdt, hsz, kv, hm⟩ := I.frzK hH
    obtain ⟨rfl, rfl⟩ := dict_ep hod hdt
    obtain ⟨o2, es2, g1, g2, g3, g4, g5, g6⟩ := hm
    rw [hgd] at g1
    cases g1
    obtain ⟨q1, _⟩ := dict_ep hdt g3
    subst q1
    have pv := pairs_val g5
    have n1 : d ≠ it := fun q => by
      obtain ⟨o', ho', hc', hd'⟩ := hi
      rw [← q, hgd] at ho'; cases ho'
      rw [hdt] at hd'; cases hd'
    have n2 : d ≠ e := fun q => by
      have he' : s.heap.get? e = _ := he
      rw [← q, hgd] at he'; cases he'
      cases hdt
    rw [← hsz] at hi
    refine ⟨_, _, _, _, draws_val (show (Around.in1 X.A).handled = none from I.ok.hd hc) it d n1 es2 ep', ⟨hi, ⟨_, hgd, hx, hdt⟩⟩, ?_, ?_, ?_, fun h q => by rw [hsz] at q; exact q.1, ?_⟩
    · intro q
      simp only [List.mem_cons, List.not_mem_nil, or_false] at q
      rcases q with q | q
      · exact ne q
      · exact n2 q.symm
    · rintro ⟨_, q⟩; rw [hsz]; exact q
    · rintro ⟨_, q⟩; rw [hsz]; exact q.symm
    · rintro v ⟨en, hen, rfl⟩ _
      obtain ⟨p, hp, ev⟩ := pv.2 i en (by rw [Array.getElem?_toList]; exact hen)
      rw [ev]
      exact kv_back kv hp
theorem begins_values (v d : Addr) (es : Array DictEntry) (ep : Nat) :
    Begins (.ref v) ⟨.type "dict_valueiterator", none, .fields #[.ref d, .int 0 0, .int (es.size : Nat) 0, .int (ep : Nat) 0], #[]⟩ (fun h => Heap.IsValuesView h v d ∧ Heap.DictRaw h d es ep) where
  iter := fun prog w A E s Q hq q => wpAny_pyIter_values_raw hq.1 hq.2 q
  keeps := by
    rintro h h' ⟨⟨o, a, b, c⟩, o2, g1, g2⟩ k
    exact ⟨⟨o, k _ _ a, b, c⟩, o2, k _ _ g1, g2⟩
  free := rfl
def iEnumV (k₀ : Int) (td : TE) : TI := fun σ H R => td σ H fun x H1 => ∃ d o kvs, x = .ref d ∧ H1 d = some (.frz o (.dK kvs)) ∧ R (ItV k₀ d o kvs) H1
theorem pi_enumV {X : Cx} {e : Expr} {td : TE} {p pos cpos apos tpos kp cq : Pos} {cp : Nat} {elts : List Expr} {kk : Nat} {k₀ : Int} (hg : Gl X "enumerate") (hm : X.mg "enumerate" = none) (he : PE X e td)
    (b0 : -2 ^ 63 ≤ k₀) (b1 : k₀ < 2 ^ 63)
    (hbase : attributeBase e "values" X.env (eval e X.env) = eval e X.env := by rfl) (hline : (apos.endLine == cpos.line) = true := by rfl) :
    PI X (.Tuple elts kk tpos) (.Call (.Name "enumerate" p) [.Call (.Attribute e "values" apos) [] [] cpos] [⟨some "start", .Constant (.int k₀) cp cq, kp⟩] pos) (iEnumV k₀ td) := by
  refine ⟨fun pins s σ H R I h => wpAny_Call_Name_kw (ld_blt I hg hm PyProof.Rows.boot_enumerate (callType_kw ?_ rfl rfl rfl rfl))⟩
  refine Calls.spliced_cons ?_
  refine wpAny_Call_method hbase rfl hline F.plainAttrs_dict F.slot_dict_values F.type_dict_values (thn (he.run pins s σ H _ I h) ?_)
  rintro u s1 ⟨x, H1, I1, rx, d, o, kvs, rfl, hd, q⟩
  have ex : u = .ref d := rx
  subst ex
  obtain ⟨hs, hgd, hx, es, ep, vs, hdt, hsz, kv, hm⟩ := I1.frzK hd
  have hl := Paired.length kv
  refine ⟨hm.dictOf.typeIs, hm.dictOf.mapOf.noDict, ?_⟩
  refine method_meetsIn F.slot_dict_values F.entry_dict_values rfl (evalArgs_none ?_)
  refine ⟨rfl, hm.dictOf.typeIs, F.args_dict_values_1 _, _, meets_dict_values (mixKind X.prog X.w) d hs, ⟨vs, hm.dictOf⟩, ?_⟩
  show wpAny (model X.prog X.w) X.A (spliced []) _ _ _
  refine Calls.spliced_nil ?_
  have I2 := I1.kept (t' := s1.toks) fun b ob q => Heap.get?_push_of_some ⟨.type "dict_values", none, .fields #[.ref d], #[]⟩ q
  refine wpAny_evalAll_cons (wpAny_bind (wpAny_Constant_int (wpAny_bind (wpAny_standAt (wpAny_pure (wpAny_evalAll_nil ?_))))))
  have vw : Heap.IsValuesView (s1.heap.push ⟨.type "dict_values", none, .fields #[.ref d], #[]⟩) s1.heap.objs.size d := ⟨_, Heap.get?_push_size _ rfl, rfl, rfl⟩
  refine enum_begins_start (begins_values s1.heap.objs.size d es ep) ⟨vw, ⟨_, Heap.get?_push_of_some _ hgd, hx, hdt⟩⟩ b0 b1 fun h' he ho hsz2 hk => ?_
  refine wpAny_pyIter_enum he ?_
  have I3 := I2.kept (t' := s1.toks + 1) hk
  refine ⟨_, [(s1.heap.push ⟨.type "dict_values", none, .fields #[.ref d], #[]⟩).objs.size + 1, (s1.heap.push ⟨.type "dict_values", none, .fields #[.ref d], #[]⟩).objs.size], _, _, H1, rfl, I3, turn_fromV k₀ _ _ d hdt, ⟨⟨_, by simpa using he⟩, ⟨_, ho, rfl, by rw [← hsz]; rfl⟩, Nat.succ_ne_self _⟩, ?_, q⟩
  intro b hb
  simp only [List.mem_cons, List.not_mem_nil, or_false] at hb
  rcases hb with rfl | rfl
  · exact I2.fpOk (Nat.le_succ _) (I2.hok.fresh (Nat.le_succ _))
  · exact I2.fpOk (Nat.le_refl _) (I2.hok.fresh (Nat.le_refl _))
theorem walk_enumV {k₀ : Int} {d : Addr} {o : Obj} {kvs : List (Key × V)} :
    Walk (ItV k₀ d o kvs) kvs.length (fun H => H d = some (.frz o (.dK kvs))) (fun i H v H' => ∃ T x k, v = .ref T ∧ H T = none ∧ H' = upd H T (.tup [.int (k₀ + i), x]) ∧ kvs[i]? = some (k, x)) where
  goes := fun i H hi h => ⟨h, hi⟩
  stops := fun H h => ⟨h, rfl⟩
  yields := by
    rintro i H x H' hi h ⟨T, y, rfl, hT, rfl, k, hy⟩
    exact ⟨T, y, k, rfl, hT, rfl, hy⟩
end Mf
namespace Mf
open PySem L2
def top (i : Nat) : Stmt := PySem.Challenge.pw_midfall_k22_whole_insertion.main.body.getD i (.Pass ⟨0, 0, 0, 0⟩)
abbrev sSource : Stmt := top 29
abbrev sDraw : Stmt := top 30
section
variable {P : Program} {w : World} {K : PySem.W.Frag} {mg : Str → Option Value} {base : Heap}

/-! ### _law_source -/
def spSource (K : PySem.W.Frag) : Sp := fun vs H Q _ => ∃ (a : Addr) (ns : List Int), vs = [.ref a] ∧ SqL K H a (ns.map V.int) ∧ ns.length ≤ 63 ∧ ∀ p H', H p = none → Same H H' → Src H' p 1000000000 → Q (.ref p) H'
theorem scSource : FnScope ["_law_script", "_law_great", "_law_seed", "_law_k", "_law_cell"] ["_law_script"] (defScope sSource) := ⟨rfl, rfl, rfl, by decide +kernel, rfl, by decide +kernel, by decide +kernel⟩
theorem ok_source {f : Addr} {fd : FuncData} (F : Fun K "_law_source" "_law_source" sSource f fd) (mI : mg "int" = none) (mE : mg "enumerate" = none) : FnOk P w K mg base CX0 1 f fd ["_law_script"] (spSource K) := by
  refine F.ok scSource (fun vs H Q E h => ?_) (fun cdv A outer s H vs Q E hr h => ?_)
  · obtain ⟨a, ns, rfl, _⟩ := h
    rfl
  · obtain ⟨a, ns, rfl, hs, hl, k⟩ := h
    refine ⟨_, pss_cons (ps_set (i := 1) scSource.nd rfl (.inl rfl) pe_int) (pss_cons (ps_set (i := 2) scSource.nd rfl (.inl rfl) pe_int)
      (pss_cons (ps_for PassesOwn.never rfl (pi_enum (by rfl) mE (pa_cons (pv 0) pa_nil)) (pg_tup rfl (pgs_cons (pg_name (i := 3) scSource.nd rfl (.inl rfl)) (pgs_cons (pg_name (i := 4) scSource.nd rfl (.inl rfl)) pgs_nil)))
        (C8.pss_cut (ps_if (PW.pt (pw_and (pt_cmpR op_eq (pv 1) pe_int (nomark _)) (pw_and1 (pt_cmpR op_ge (pv 4) (pe_op op_pow pe_int pe_int) (nomark _))))) (pss_one (ps_set (i := 1) scSource.nd rfl (.inl rfl) (pv 4))) pss_nil)
        (pss_one (ps_set (i := 2) scSource.nd rfl (.inl rfl) (pe_op op_mod (pe_callTy call_int1 (by rfl) mI (by decide +kernel) (pa_cons (pe_op op_add (pe_op op_mul (pe_op op_add (pv 2) (pe_op op_mod (pe_callTy call_int1 (by rfl) mI (by decide +kernel) (pa_cons (pv 4) pa_nil)) pe_int)) pe_int) (pv 3)) pa_nil)) pe_int)))))
      (pss_one (ps_ret (pe_lst (pa_cons (pv 1) (pa_cons (pv 2) (pa_cons pe_int pa_nil)))))))), ?_⟩
    refine ⟨_, rfl, a, _, rfl, hs, ?_⟩
    refine for_it walk_enum (fun i σ H' => ∃ (g s : Int) (vk vc : Option V), σ = [some (.ref a), some (.int g), some (.int s), vk, vc] ∧ 0 ≤ s ∧ s < 2147483647 ∧ Same H H') ⟨0, 104729, none, none, rfl, by decide, by decide, Same.refl H⟩ (fun i σ H' _ h => h.choose_spec.choose_spec.choose_spec.choose_spec.2.2.2.seq hs) ?_ ?_
    · rintro i x σ H1 H2 hi ⟨g, s, vk, vc, rfl, s0, s1, sm⟩ ⟨T, x1, y, rfl, hT, rfl, e1, e2⟩
      obtain rfl : x1 = .int (i : Nat) := (Option.some.inj e1).symm
      have e2 : (ns.map V.int)[i]? = some y := e2
      rw [List.getElem?_map] at e2
      obtain ⟨m, _, rfl⟩ := Option.map_eq_some_iff.mp e2
      refine ⟨T, _, rfl, .of upd_same, rfl, _, _, rfl, _, _, rfl, rfl, ?_⟩
      refine ⟨fun σ' H' => ∃ g' : Int, σ' = [some (.ref a), some (.int g'), some (.int s), some (.int (i : Nat)), some (.int m)] ∧ H' = upd H1 T (.tup [.int (i : Nat), .int m]), ?_, ?_⟩
      · refine ⟨_, rfl, rfl, _, rfl, ite2 (fun _ => ?_) fun _ => ?_⟩
        · refine ⟨_, rfl, _, _, rfl, rfl, ⟨by decide, by decide, by decide⟩, _, _, rfl, rfl, _, rfl, ite2 (fun _ => ?_) fun _ => ?_⟩
          · exact ⟨_, rfl, m, rfl, rfl⟩
          · exact ⟨g, rfl, rfl⟩
        · exact iteF ⟨g, rfl, rfl⟩
      · rintro σ' H' ⟨g', rfl, rfl⟩
        refine ⟨_, rfl, _, rfl, .inl ⟨_, rfl, _, _, rfl, rfl, (by show (0 : Int) < 2147483629; decide), _, _, rfl, rfl, _, _, rfl, rfl, .inr ⟨(by show -(2 ^ 64) < (48271 : Int); decide), (by show (48271 : Int) < 2 ^ 64; decide)⟩, _, rfl, _, _, rfl, rfl, .inl ⟨_, rfl, _, _, rfl, rfl, (by show (0 : Int) < 2147483647; decide), ?_⟩⟩⟩
        exact ⟨_, _, _, _, rfl, Int.emod_nonneg _ (by decide), Int.emod_lt_of_pos _ (by decide), sm.trans (Same.new hT)⟩
    · rintro σ H1 ⟨g, s, vk, vc, rfl, s0, s1, sm⟩
      refine ⟨_, rfl, _, rfl, (by show 3 ≤ sizeLine; decide), fun p hp => ?_⟩
      exact k p _ (sm.free hp) (sm.trans (Same.new hp)) ⟨g, s, 0, upd_same, s0, s1, by decide, by decide⟩

/-! ### _law_draw -/
def spDraw : Sp := fun vs H Q _ => ∃ (a : Addr) (many : Int) (n : Nat), vs = [.ref a, .int many] ∧ 0 < many ∧ many.natAbs < 2 ^ 200 ∧ Src H a (n + 1) ∧ ∀ v H', 0 ≤ v → v < many → Kp a H H' → Src H' a n → Q (.int v) H'
theorem scDraw : FnScope ["_law_source_here", "_law_many", "_law_value", "_law_stirred"] ["_law_source_here", "_law_many"] (defScope sDraw) := ⟨rfl, rfl, rfl, by decide +kernel, rfl, by decide +kernel, by decide +kernel⟩
theorem ok_draw {f : Addr} {fd : FuncData} (F : Fun K "_law_draw" "_law_draw" sDraw f fd) (mI : mg "int" = none) : FnOk P w K mg base CX0 1 f fd ["_law_source_here", "_law_many"] spDraw := by
  refine F.ok scDraw (fun vs H Q E h => ?_) (fun cdv A outer s H vs Q E hr h => ?_)
  · obtain ⟨a, m, n, rfl, _⟩ := h
    rfl
  · obtain ⟨a, many, n, rfl, m0, mb, ⟨g, sd, c, ha, s0, s1, c0, c1⟩, k⟩ := h
    refine ⟨_, pss_cons (ps_if (pt_cmpR op_gt (pe_ix ix_list (pv 0) pe_int (fun _ _ => rfl)) pe_int (nomark _))
        (pss_cons (ps_set (i := 2) scDraw.nd rfl (.inl rfl) (pe_op op_mod (pe_callTy call_int1 (by rfl) mI (by decide +kernel) (pa_cons (pe_ix ix_list (pv 0) pe_int (fun _ _ => rfl)) pa_nil)) (pv 1)))
        (pss_cons (ps_asg (pe_op op_fdivW (pe_ix ix_list (pv 0) pe_int (fun _ _ => rfl)) (pv 1)) (pg_sub (pv 0) pe_int set_list))
        (pss_one (ps_ret (pv 2))))) pss_nil)
      (pss_cons (ps_asg (pe_op op_add (pe_ix ix_list (pv 0) pe_int (fun _ _ => rfl)) pe_int) (pg_sub (pv 0) pe_int set_list))
      (pss_cons (ps_set (i := 3) scDraw.nd rfl (.inl rfl) (pe_op op_mod (pe_callTy call_int1 (by rfl) mI (by decide +kernel) (pa_cons (pe_op op_pow (pe_op op_add (pe_ix ix_list (pv 0) pe_int (fun _ _ => rfl)) (pe_op op_mul pe_int (pe_ix ix_list (pv 0) pe_int (fun _ _ => rfl)))) pe_int) pa_nil)) pe_int))
      (pss_one (ps_ret (pe_op op_mod (pe_callTy call_int1 (by rfl) mI (by decide +kernel) (pa_cons (pe_op op_mod (pe_callTy call_int1 (by rfl) mI (by decide +kernel) (pa_cons (pe_op op_mul (pe_op op_add (pv 3) (pe_ix ix_list (pv 0) pe_int (fun _ _ => rfl))) pe_int) pa_nil)) pe_int) pa_nil)) (pv 1)))))), ?_⟩
    refine ⟨_, rfl, a, _, _, _, rfl, rfl, .of ha, rfl, _, _, rfl, rfl, _, rfl, ite2 (fun _ => ?_) fun _ => ?_⟩
    · refine ⟨_, rfl, a, _, _, _, rfl, rfl, .of ha, rfl, .inl ⟨_, rfl, _, rfl, _, _, rfl, rfl, m0, ?_⟩⟩
      refine ⟨_, rfl, a, _, _, _, rfl, rfl, .of ha, rfl, _, rfl, _, _, rfl, rfl, wide_div m0 mb (by decide) (by decide), _, rfl, a, _, _, 0, rfl, rfl, ha, rfl, _, rfl, ?_⟩
      exact k _ _ (Int.emod_nonneg _ (by omega)) (Int.emod_lt_of_pos _ m0) (Kp.refl.put) ⟨g / many, sd, c, upd_same, s0, s1, c0, by omega⟩
    · refine ⟨_, rfl, a, _, _, _, rfl, rfl, .of ha, rfl, _, _, rfl, rfl, _, rfl, a, _, _, 2, rfl, rfl, ha, rfl, ?_⟩
      have h2 : (upd H a (.lst [.int g, .int sd, .int (c + 1)])) a = some (.lst [.int g, .int sd, .int (c + 1)]) := upd_same
      refine ⟨_, rfl, a, _, _, _, rfl, rfl, .of h2, rfl, _, rfl, a, _, _, _, rfl, rfl, .of h2, rfl, _, _, rfl, rfl, .inl ⟨(by show -(2 ^ 64) < (7919 : Int); decide), (by show (7919 : Int) < 2 ^ 64; decide)⟩, _, _, rfl, rfl, _, _, rfl, rfl, ⟨by decide, by decide, ?_⟩, .inl ⟨_, rfl, _, _, rfl, rfl, (by show (0 : Int) < 2147483647; decide), ?_⟩⟩
      · show (sd + 7919 * (c + 1)).natAbs < 2 ^ 64
        omega
      · refine ⟨_, rfl, _, rfl, a, _, _, _, rfl, rfl, .of h2, rfl, _, _, rfl, rfl, _, _, rfl, rfl, .inr ⟨(by show -(2 ^ 64) < (40692 : Int); decide), (by show (40692 : Int) < 2 ^ 64; decide)⟩, .inl ⟨_, rfl, _, _, rfl, rfl, (by show (0 : Int) < 2147483629; decide), .inl ⟨_, rfl, _, rfl, _, _, rfl, rfl, m0, ?_⟩⟩⟩
        exact k _ _ (Int.emod_nonneg _ (by omega)) (Int.emod_lt_of_pos _ m0) (Kp.refl.put) ⟨g, sd, c + 1, h2, s0, s1, by omega, by omega⟩
end
end Mf
namespace Mf
open PySem L2
section
variable {P : Program} {w : World} {K : PySem.W.Frag} {mg : Str → Option Value} {base : Heap}

/-! ### is_name -/
def nameB (z : Str) : Bool := decide (1 ≤ z.length) && decide (z.length ≤ 8) && z.cps.toList.all fun c => decide (97 ≤ c) && decide (c ≤ 122)
theorem nameB_iff (z : Str) : nameB z = true ↔ IsName z := by
  have h : z.length = z.cps.size := rfl
  unfold nameB IsName
  rw [h, Bool.and_eq_true_iff, Bool.and_eq_true_iff, List.all_eq_true]
  refine ⟨fun ⟨⟨a, b⟩, c⟩ => ⟨of_decide_eq_true a, of_decide_eq_true b, fun x hx => ?_⟩, fun ⟨a, b, c⟩ => ⟨⟨decide_eq_true a, decide_eq_true b⟩, fun x hx => ?_⟩⟩
  · have q := Bool.and_eq_true_iff.mp (c x hx)
    exact ⟨of_decide_eq_true q.1, of_decide_eq_true q.2⟩
  · have q := c x hx
    exact Bool.and_eq_true_iff.mpr ⟨decide_eq_true q.1, decide_eq_true q.2⟩
theorem sign_le (a b : Nat) : (!decide ([b] < [a])) = decide (a ≤ b) := by
  have e : ([b] < [a]) ↔ b < a := by
    rw [List.cons_lt_cons_iff]
    simp
  by_cases h : a ≤ b
  · rw [decide_eq_true h, decide_eq_false (fun q => by have := e.mp q; omega)]; rfl
  · rw [decide_eq_false h, decide_eq_true (e.mpr (by omega))]; rfl
theorem le_of_sign {c : Nat} (q : (!decide ([c] < [97])) = true) : 97 ≤ c := by
  rw [sign_le] at q; exact of_decide_eq_true q
theorem le_sign {c : Nat} (q : 97 ≤ c) : (!decide ([c] < [97])) = true := by
  rw [sign_le]; exact decide_eq_true q
def spIsName : Sp := fun vs H Q _ => ∃ z : Str, vs = [.str z] ∧ z.length ≤ sizeLine ∧ ∀ H', Same H H' → Q (.bl (nameB z)) H'
abbrev sIs_name : Stmt := top 12
theorem scIs_name : FnScope ["value", "letter"] ["value"] (defScope sIs_name) := ⟨rfl, rfl, rfl, by decide +kernel, rfl, by decide +kernel, by decide +kernel⟩
theorem ok_is_name {f : Addr} {fd : FuncData} {t : Tok} (F : Fun K "is_name" "is_name" sIs_name f fd) (mIsi : mg "isinstance" = none) (mStr : mg "str" = none) (mLen : mg "len" = none) (mAll : mg "all" = none) (mg_LONGEST_NAME : mg "LONGEST_NAME" = some (.int 8 t)) : FnOk P w K mg base CX0 1 f fd ["value"] spIsName := by
  refine F.ok scIs_name (fun vs H Q E h => ?_) (fun cdv A outer s H vs Q E hr h => ?_)
  · obtain ⟨z, rfl, _⟩ := h
    rfl
  · obtain ⟨z, rfl, hz, k⟩ := h
    refine ⟨_, (pss_cons (ps_if (PW.pt (pw_or (pt_not (pt_val (pe_callB (k_isi K) (by rfl) mIsi (by decide +kernel) (pa_cons (pv 0) (pa_cons (pe_bltn (v := .ty "str") (by rfl) mStr (by decide +kernel) rfl) pa_nil))))) (pw_or1 (pt_not (pt_chain op_le op_le pe_int (pe_callB call_len_str (by rfl) mLen (by decide +kernel) (pa_cons (pv 0) pa_nil)) (pe_glob (v := .int 8) rfl mg_LONGEST_NAME ⟨_, rfl⟩))))))
        (pss_one (ps_ret pe_bl)) pss_nil)
      (pss_one (ps_ret (pe_callB (k_all K) (by rfl) mAll (by decide +kernel) (pa_cons (pe_lc (own := [("letter", 1)]) (g := (gName 1)) (tt := tYes) rfl scIs_name.nd (pi_str (pv 0)) (blkOk_by (own := [("letter", 1)]) (N := ["value", "letter"]) (sc := defScope sIs_name) (by decide +kernel)) (fun _ _ _ _ _ => (pg_name (i := 1) scIs_name.nd rfl (by first | exact Or.inl rfl | exact Or.inr rfl))) (fun _ _ _ _ _ => pts_nil) (fun _ _ _ _ _ => (pe_chain op_le_str op_le_str pe_str (pv 1) pe_str))) pa_nil))))), ?_⟩
    refine ⟨_, rfl, _, _, _, _, true, rfl, .ty _, .base (.str _), kit_ty (by decide +kernel), _, rfl, iteF ?_⟩
    refine ⟨_, rfl, z, rfl, hz, _, _, rfl, rfl, _, rfl, ite2 (fun a1 => ?_) fun a1 => ?_⟩
    · have b1 : 1 ≤ z.length := by have := of_decide_eq_true a1; omega
      refine ⟨_, _, rfl, rfl, _, rfl, ite2 (fun a2 => ?_) fun a2 => ?_⟩
      · have b2 : ¬ z.length ≤ 8 := fun q => by
          rw [decide_eq_true (by omega : (z.length : Int) ≤ 8)] at a2; cases a2
        have e : nameB z = false := by unfold nameB; rw [decide_eq_false b2, Bool.and_false, Bool.false_and]
        have q := k H (Same.refl H)
        rw [e] at q; exact q
      · have b2 : z.length ≤ 8 := by
          by_cases q : z.length ≤ 8
          · exact q
          · rw [decide_eq_false (by omega : ¬ (z.length : Int) ≤ 8)] at a2; exact absurd a2 (by decide)
        refine ⟨_, rfl, _, rfl, fun D hD => ?_⟩
        refine lc_it walk_str (fun i H' => H' D = some (.lst (((z.cps.toList.take i).map fun c => decide (97 ≤ c) && decide (c ≤ 122)).map V.bl)) ∧ Same H H') ⟨upd_same, Same.new hD⟩ (fun _ _ _ _ => trivial) ?_ ?_
        · rintro i x H4 H5 hi ⟨h4, s4⟩ ⟨rfl, c, hc, rfl⟩
          refine ⟨rfl, yes_then ?_⟩
          have hc' : z.cps.toList[i]? = some c := by rw [Array.getElem?_toList]; exact hc
          have hlen : i < z.length := hi
          have fin : ∀ b : Bool, b = (decide (97 ≤ c) && decide (c ≤ 122)) → ∃ acc, H5 D = some (.lst acc) ∧ acc.length < sizeLine ∧
              upd H5 D (.lst (acc ++ [.bl b])) D = some (.lst (((z.cps.toList.take (i + 1)).map fun c => decide (97 ≤ c) && decide (c ≤ 122)).map V.bl)) ∧ Same H (upd H5 D (.lst (acc ++ [.bl b]))) := by
            rintro b rfl
            refine ⟨_, h4, ?_, ?_, s4.mut hD⟩
            · rw [List.length_map, List.length_map]
              exact Nat.lt_of_le_of_lt (List.length_take_le _ _) (Nat.lt_of_lt_of_le (by omega : i < 9) (by decide))
            · rw [upd_same, List.take_add_one, hc', List.map_append, List.map_append]; rfl
          refine ⟨_, rfl, _, _, rfl, rfl, _, rfl, ite2 (fun q => ?_) fun q => ?_⟩
          · refine ⟨_, _, rfl, rfl, ?_⟩
            refine fin _ ?_
            have e1 : 97 ≤ c := le_of_sign q
            rw [decide_eq_true e1, Bool.true_and]
            exact sign_le c 122
          · refine fin false ?_
            have e1 : ¬ 97 ≤ c := fun h => q (le_sign h)
            rw [decide_eq_false e1, Bool.false_and]
        · rintro H4 ⟨h4, s4⟩
          refine ⟨D, _, rfl, .of h4, ?_⟩
          have e : nameB z = (((z.cps.toList.take z.cps.size).map fun c => decide (97 ≤ c) && decide (c ≤ 122)).all id) := by
            unfold nameB
            rw [decide_eq_true b1, decide_eq_true b2, List.take_of_length_le (by rw [Array.length_toList]; exact Nat.le_refl _), List.all_map]
            rfl
          have q := k H4 s4
          rw [e] at q
          exact q
    · have b1 : ¬ 1 ≤ z.length := fun q => by
        rw [decide_eq_true (by omega : (1 : Int) ≤ z.length)] at a1; exact a1 rfl
      have e : nameB z = false := by unfold nameB; rw [decide_eq_false b1, Bool.false_and, Bool.false_and]
      have q := k H (Same.refl H)
      rw [e] at q
      exact ⟨_, rfl, iteT q⟩
end
end Mf
namespace Mf
open PySem L2
section
variable {P : Program} {w : World} {K : PySem.W.Frag} {mg : Str → Option Value} {base : Heap}

/-! ### _is_step, of two texts -/
def kinds : List Str := ["read", "say", "call", "try"]
def stepB (kd wd : Str) : Bool := decide (kd ∈ kinds) && nameB wd
def spIsStep : Sp := fun vs H Q _ => ∃ (t : Addr) (kd wd : Str), vs = [.ref t] ∧ H t = some (.tup [.str kd, .str wd]) ∧ wd.length ≤ sizeLine ∧ ∀ H', Same H H' → Q (.bl (stepB kd wd)) H'
abbrev sIs_step : Stmt := top 21
theorem scIs_step : FnScope ["step"] ["step"] (defScope sIs_step) := ⟨rfl, rfl, rfl, by decide +kernel, rfl, by decide +kernel, by decide +kernel⟩
theorem ok_is_step {f aK : Addr} {fd : FuncData} (F : Fun K "_is_step" "_is_step" sIs_step f fd) (mIsi : mg "isinstance" = none) (mTuple : mg "tuple" = none) (mLen : mg "len" = none) (mg_KINDS : mg "KINDS" = some (.ref aK)) (qK : ∀ H, SqT K H aK (kinds.map V.str))
    (c_is_name : Cal P w K mg base CX0 1 "is_name" ["value"] spIsName) : FnOk P w K mg base CX0 2 f fd ["step"] spIsStep := by
  refine F.ok scIs_step (fun vs H Q E h => ?_) (fun cdv A outer s H vs Q E hr h => ?_)
  · obtain ⟨t, kd, wd, rfl, _⟩ := h
    rfl
  · obtain ⟨t, kd, wd, rfl, ht, hw, k⟩ := h
    have hr_is_name := hr
    refine ⟨_, (pss_one (ps_ret (pe_and (pe_callB (k_isi K) (by rfl) mIsi (by decide +kernel) (pa_cons (pv 0) (pa_cons (pe_bltn (v := .ty "tuple") (by rfl) mTuple (by decide +kernel) rfl) pa_nil))) (pe_and (pe_cmpR op_eq (pe_callB (k_len K) (by rfl) mLen (by decide +kernel) (pa_cons (pv 0) pa_nil)) pe_int (nomark _)) (pe_and (pe_cmpR (oin K) (pe_ix (ixt K) (pv 0) pe_int (fun _ _ => rfl)) (pe_glob (v := .ref _) rfl mg_KINDS rfl) (by rfl)) (pe_one (pe_cal c_is_name hr_is_name pass0 (pa_cons (pe_ix (ixt K) (pv 0) pe_int (fun _ _ => rfl)) pa_nil)))))))), ?_⟩
    refine ⟨_, rfl, _, _, _, _, true, rfl, .ty _, .base (.tup ht), kit_ty (by decide +kernel), _, rfl, iteT ?_⟩
    refine ⟨_, rfl, t, _, rfl, .inr (.of ht), ?_⟩
    refine ⟨rfl, _, rfl, iteT ?_⟩
    refine ⟨_, rfl, t, _, 0, _, rfl, rfl, .of ht, rfl, ?_⟩
    refine ⟨aK, _, rfl, .inr (qK _), rfl, flat_strs kinds, _, rfl, ?_⟩
    show if inV (.str kd) (kinds.map V.str) = true then _ else _
    rw [inV_str]
    refine ite2 (fun q => ?_) fun q => ?_
    · refine ⟨_, rfl, t, _, 1, _, rfl, rfl, .of ht, rfl, wd, rfl, hw, fun H' s' => ?_⟩
      have e : stepB kd wd = nameB wd := by unfold stepB; rw [q, Bool.true_and]
      have z := k H' s'
      rw [e] at z; exact z
    · have e : stepB kd wd = false := by unfold stepB; rw [Bool.eq_false_iff.mpr q, Bool.false_and]
      have z := k H (Same.refl H)
      rw [e] at z; exact z
end
end Mf
namespace Mf
open PySem L2
section
variable {P : Program} {w : World} {K : PySem.W.Frag} {mg : Str → Option Value} {base : Heap}

/-! ### _is_body, of steps that are two texts -/
/-- the steps ss lie at the addresses ts -/
def StA (H : Hp) (ts : List Addr) (ss : List (Str × Str)) : Prop := Paired (fun t s => H t = some (.tup [.str s.1, .str s.2])) ts ss
theorem StA.same {H H' : Hp} {ts : List Addr} {ss : List (Str × Str)} (x : StA H ts ss) (h : Same H H') : StA H' ts ss := by
  induction x with
  | nil => exact .nil
  | cons a _ ih => exact .cons (h _ _ a) ih
theorem StA.get {H : Hp} {ts : List Addr} {ss : List (Str × Str)} (x : StA H ts ss) {i : Nat} {t : Addr} (h : ts[i]? = some t) : ∃ s, ss[i]? = some s ∧ H t = some (.tup [.str s.1, .str s.2]) := by
  induction x generalizing i with
  | nil => simp at h
  | cons a _ ih =>
    match i, h with
    | 0, h => cases h; exact ⟨_, rfl, a⟩
    | i + 1, h => exact ih h
theorem SameL {t : Addr} {H H' : Hp} {xs : List V} (x : Same H H') (h : SqL K H t xs) : SqL K H' t xs := by
  rcases h with (h | ⟨o, h⟩) | h
  · exact .inl (.inl (x _ _ h))
  · exact .inl (.inr ⟨o, x _ _ h⟩)
  · exact .inr h
theorem StA.mem {ss : List (Str × Str)} {i : Nat} {s : Str × Str} (h : ss[i]? = some s) : s ∈ ss := List.mem_of_getElem? h
def bodyB (ss : List (Str × Str)) : Bool := decide (ss.length ≤ 12) && ss.all fun s => stepB s.1 s.2
def spIsBody (K : PySem.W.Frag) : Sp := fun vs H Q _ => ∃ (b : Addr) (ts : List Addr) (ss : List (Str × Str)), vs = [.ref b] ∧ (SqL K H b (ts.map V.ref) ∨ SqT K H b (ts.map V.ref)) ∧ StA H ts ss ∧ (∀ s ∈ ss, s.2.length ≤ sizeLine) ∧
  ∀ H', Same H H' → Q (.bl (bodyB ss)) H'
abbrev sIs_body : Stmt := top 20
theorem scIs_body : FnScope ["steps", "step"] ["steps"] (defScope sIs_body) := ⟨rfl, rfl, rfl, by decide +kernel, rfl, by decide +kernel, by decide +kernel⟩
theorem ok_is_body {f : Addr} {fd : FuncData} {tk : Tok} (F : Fun K "_is_body" "_is_body" sIs_body f fd) (mLen : mg "len" = none) (mAll : mg "all" = none) (mg_MOST_STEPS : mg "MOST_STEPS" = some (.int 12 tk))
    (c__is_step : Cal P w K mg base CX0 2 "_is_step" ["step"] spIsStep) : FnOk P w K mg base CX0 3 f fd ["steps"] (spIsBody K) := by
  refine F.ok scIs_body (fun vs H Q E h => ?_) (fun cdv A outer s H vs Q E hr h => ?_)
  · obtain ⟨b, ts, ss, rfl, _⟩ := h
    rfl
  · obtain ⟨b, ts, ss, rfl, hb, st, hw, k⟩ := h
    have hr__is_step := hr
    have ln : ts.length = ss.length := Paired.length st
    rcases hb with hb | hb
    · refine ⟨_, (pss_one (ps_ret (pe_and (pe_cmpR op_le (pe_callB (k_len K) (by rfl) mLen (by decide +kernel) (pa_cons (pv 0) pa_nil)) (pe_glob (v := .int 12) rfl mg_MOST_STEPS ⟨_, rfl⟩) (nomark _)) (pe_one (pe_callB (k_all K) (by rfl) mAll (by decide +kernel) (pa_cons (pe_lc (own := [("step", 1)]) (g := (gName 1)) (tt := tYes) rfl scIs_body.nd (pi_list (pv 0)) (blkOk_by (own := [("step", 1)]) (N := ["steps", "step"]) (sc := defScope sIs_body) (by decide +kernel)) (fun _ _ _ _ _ => (pg_name (i := 1) scIs_body.nd rfl (by first | exact Or.inl rfl | exact Or.inr rfl))) (fun _ _ _ _ _ => pts_nil) (fun _ _ _ _ _ => (pe_cal c__is_step hr__is_step pass0 (pa_cons (pv 1) pa_nil)))) pa_nil)))))), ?_⟩
      refine ⟨_, rfl, b, _, rfl, .inl hb, _, _, rfl, rfl, _, rfl, ite2 (fun q => ?_) fun q => ?_⟩
      · have few : decide (ss.length ≤ 12) = true := by
          have q := of_decide_eq_true q
          rw [List.length_map, ln] at q
          exact decide_eq_true (by omega)
        refine ⟨_, rfl, b, rfl, ⟨_, hb⟩, fun D hD => ?_⟩
        refine lc_it walk_list (fun i H' => H' D = some (.lst (((ss.take i).map fun s => stepB s.1 s.2).map V.bl)) ∧ Same H H') ⟨upd_same, Same.new hD⟩ (fun i H' _ q => SameL q.2 hb) ?_ ?_
        · rintro i x H4 H5 hi ⟨h4, s4⟩ ⟨rfl, hx⟩
          rw [List.getElem?_map] at hx
          obtain ⟨t, ht, rfl⟩ := Option.map_eq_some_iff.mp hx
          obtain ⟨s, hs, hts⟩ := st.get ht
          have li : i < ts.length := by rw [List.length_map] at hi; exact hi
          have f12 : ss.length ≤ 12 := of_decide_eq_true few
          refine ⟨rfl, yes_then ?_⟩
          refine ⟨_, rfl, t, s.1, s.2, rfl, s4 _ _ hts, hw s (StA.mem hs), fun H6 s6 => ⟨_, s6 _ _ h4, ?_, ?_, (s4.trans s6).mut hD⟩⟩
          · rw [List.length_map, List.length_map]
            exact Nat.lt_of_le_of_lt (List.length_take_le _ _) (Nat.lt_of_lt_of_le (by omega : i < 12) (by decide))
          · rw [upd_same, List.take_add_one, hs, List.map_append, List.map_append]; rfl
        · rintro H4 ⟨h4, s4⟩
          refine ⟨D, _, rfl, .of h4, ?_⟩
          have e : bodyB ss = (((ss.take (ts.map V.ref).length).map fun s => stepB s.1 s.2).all id) := by
            unfold bodyB
            rw [few, Bool.true_and, List.take_of_length_le (by rw [List.length_map, ln]; exact Nat.le_refl _), List.all_map]
            rfl
          have z := k H4 s4
          rw [e] at z
          exact z
      · have few : decide (ss.length ≤ 12) = false := by
          refine decide_eq_false fun h => q (decide_eq_true ?_)
          rw [List.length_map, ln]
          omega
        have e : bodyB ss = false := by unfold bodyB; rw [few, Bool.false_and]
        have z := k H (Same.refl H)
        rw [e] at z
        exact z
    · refine ⟨_, (pss_one (ps_ret (pe_and (pe_cmpR op_le (pe_callB (k_len K) (by rfl) mLen (by decide +kernel) (pa_cons (pv 0) pa_nil)) (pe_glob (v := .int 12) rfl mg_MOST_STEPS ⟨_, rfl⟩) (nomark _)) (pe_one (pe_callB (k_all K) (by rfl) mAll (by decide +kernel) (pa_cons (pe_lc (own := [("step", 1)]) (g := (gName 1)) (tt := tYes) rfl scIs_body.nd (pi_tup (pv 0)) (blkOk_by (own := [("step", 1)]) (N := ["steps", "step"]) (sc := defScope sIs_body) (by decide +kernel)) (fun _ _ _ _ _ => (pg_name (i := 1) scIs_body.nd rfl (by first | exact Or.inl rfl | exact Or.inr rfl))) (fun _ _ _ _ _ => pts_nil) (fun _ _ _ _ _ => (pe_cal c__is_step hr__is_step pass0 (pa_cons (pv 1) pa_nil)))) pa_nil)))))), ?_⟩
      refine ⟨_, rfl, b, _, rfl, .inr hb, _, _, rfl, rfl, _, rfl, ite2 (fun q => ?_) fun q => ?_⟩
      · have few : decide (ss.length ≤ 12) = true := by
          have q := of_decide_eq_true q
          rw [List.length_map, ln] at q
          exact decide_eq_true (by omega)
        refine ⟨_, rfl, b, rfl, ⟨_, hb⟩, fun D hD => ?_⟩
        refine lc_it walk_tup (fun i H' => H' D = some (.lst (((ss.take i).map fun s => stepB s.1 s.2).map V.bl)) ∧ Same H H') ⟨upd_same, Same.new hD⟩ (fun i H' _ q => q.2.tup hb) ?_ ?_
        · rintro i x H4 H5 hi ⟨h4, s4⟩ ⟨rfl, hx⟩
          rw [List.getElem?_map] at hx
          obtain ⟨t, ht, rfl⟩ := Option.map_eq_some_iff.mp hx
          obtain ⟨s, hs, hts⟩ := st.get ht
          have li : i < ts.length := by rw [List.length_map] at hi; exact hi
          have f12 : ss.length ≤ 12 := of_decide_eq_true few
          refine ⟨rfl, yes_then ?_⟩
          refine ⟨_, rfl, t, s.1, s.2, rfl, s4 _ _ hts, hw s (StA.mem hs), fun H6 s6 => ⟨_, s6 _ _ h4, ?_, ?_, (s4.trans s6).mut hD⟩⟩
          · rw [List.length_map, List.length_map]
            exact Nat.lt_of_le_of_lt (List.length_take_le _ _) (Nat.lt_of_lt_of_le (by omega : i < 12) (by decide))
          · rw [upd_same, List.take_add_one, hs, List.map_append, List.map_append]; rfl
        · rintro H4 ⟨h4, s4⟩
          refine ⟨D, _, rfl, .of h4, ?_⟩
          have e : bodyB ss = (((ss.take (ts.map V.ref).length).map fun s => stepB s.1 s.2).all id) := by
            unfold bodyB
            rw [few, Bool.true_and, List.take_of_length_le (by rw [List.length_map, ln]; exact Nat.le_refl _), List.all_map]
            rfl
          have z := k H4 s4
          rw [e] at z
          exact z
      · have few : decide (ss.length ≤ 12) = false := by
          refine decide_eq_false fun h => q (decide_eq_true ?_)
          rw [List.length_map, ln]
          omega
        have e : bodyB ss = false := by unfold bodyB; rw [few, Bool.false_and]
        have z := k H (Same.refl H)
        rw [e] at z
        exact z
end
end Mf
namespace Mf
open PySem L2
section
variable {P : Program} {w : World} {K : PySem.W.Frag} {mg : Str → Option Value} {base : Heap}

/-! ### _checked_bodies, of procedures that are right -/
/-- a procedure: its name, where its body lies, where its steps lie, the steps -/
structure Pr where
  name : Str
  b : Addr
  ts : List Addr
  ss : List (Str × Str)
def PrA (K : PySem.W.Frag) (H : Hp) (p : Addr) (r : Pr) : Prop := SqT K H p [.str r.name, .ref r.b] ∧ (SqL K H r.b (r.ts.map V.ref) ∨ SqT K H r.b (r.ts.map V.ref)) ∧ StA H r.ts r.ss
theorem PrA.same {H H' : Hp} {p : Addr} {r : Pr} (x : PrA K H p r) (h : Same H H') : PrA K H' p r :=
  ⟨h.tup x.1, x.2.1.elim (fun q => .inl (SameL h q)) (fun q => .inr (h.tup q)), x.2.2.same h⟩
def Right (r : Pr) : Prop := IsName r.name ∧ bodyB r.ss = true ∧ ∀ s ∈ r.ss, s.2.length ≤ sizeLine
/-- the dict of the bodies: names to where the tuples lie -/
def kvsOf : List Pr → List Addr → List (Key × V)
  | r :: rs, u :: us => (Sum.inr r.name, V.ref u) :: kvsOf rs us
  | _, _ => []
def BoA (K : PySem.W.Frag) (H : Hp) (us : List Addr) (rs : List Pr) : Prop := Paired (fun u r => SqT K H u (r.ts.map V.ref)) us rs
theorem BoA.same {H H' : Hp} {us : List Addr} {rs : List Pr} (x : BoA K H us rs) (h : Same H H') : BoA K H' us rs := by
  induction x with
  | nil => exact .nil
  | cons a _ ih => exact .cons (h.tup a) ih
theorem kvsOf_snoc : ∀ {rs : List Pr} {us : List Addr} (r : Pr) (u : Addr), us.length = rs.length → kvsOf (rs ++ [r]) (us ++ [u]) = kvsOf rs us ++ [(Sum.inr r.name, V.ref u)]
  | [], [], r, u, _ => rfl
  | a :: rs, b :: us, r, u, h => by
    show _ :: kvsOf (rs ++ [r]) (us ++ [u]) = _
    rw [kvsOf_snoc r u (by simpa using h)]; rfl
  | [], b :: us, _, _, h => by simp at h
  | a :: rs, [], _, _, h => by simp at h
theorem kvsOf_any : ∀ {rs : List Pr} {us : List Addr} {z : Str}, us.length = rs.length → (kvsOf rs us).any (fun kv => decide (kv.1 = Sum.inr z)) = decide (z ∈ rs.map Pr.name)
  | [], [], z, _ => by simp [kvsOf]
  | a :: rs, b :: us, z, h => by
    show (decide ((Sum.inr a.name : Key) = Sum.inr z) || (kvsOf rs us).any _) = _
    rw [kvsOf_any (by simpa using h)]
    by_cases e : a.name = z
    · simp [e]
    · simp [e, Ne.symm e]
  | [], b :: us, _, h => by simp at h
  | a :: rs, [], _, h => by simp at h
theorem kvsOf_len : ∀ {rs : List Pr} {us : List Addr}, us.length = rs.length → (kvsOf rs us).length = rs.length
  | [], [], _ => rfl
  | a :: rs, b :: us, h => by
    show (kvsOf rs us).length + 1 = rs.length + 1
    rw [kvsOf_len (by simpa using h)]
  | [], b :: us, h => by simp at h
  | a :: rs, [], h => by simp at h
def spChecked (K : PySem.W.Frag) : Sp := fun vs H Q _ => ∃ (a : Addr) (ps : List Addr) (rs : List Pr), vs = [.ref a] ∧ (SqL K H a (ps.map V.ref) ∨ SqT K H a (ps.map V.ref)) ∧ Paired (PrA K H) ps rs ∧ rs.length ≤ 16 ∧ rs ≠ [] ∧ (rs.map Pr.name).Nodup ∧ (∀ r ∈ rs, Right r) ∧
  ∀ d us H', H' d = some (.dK (kvsOf rs us)) → BoA K H' us rs → Same H H' → Q (.ref d) H'
abbrev sChecked_bodies : Stmt := top 19
theorem scChecked_bodies : FnScope ["procedures", "bodies", "line", "name", "body"] ["procedures"] (defScope sChecked_bodies) := ⟨rfl, rfl, rfl, by decide +kernel, rfl, by decide +kernel, by decide +kernel⟩
theorem paired_get {α β : Type} {R : α → β → Prop} {xs : List α} {ys : List β} (r : Paired R xs ys) {i : Nat} {x : α} (h : xs[i]? = some x) : ∃ y, ys[i]? = some y ∧ R x y := by
  induction r generalizing i with
  | nil => simp at h
  | cons a _ ih =>
    match i, h with
    | 0, h => cases h; exact ⟨_, rfl, a⟩
    | i + 1, h => exact ih h
theorem paired_snoc {α β : Type} {R : α → β → Prop} {xs : List α} {ys : List β} (r : Paired R xs ys) {x : α} {y : β} (h : R x y) : Paired R (xs ++ [x]) (ys ++ [y]) := by
  induction r with
  | nil => exact .cons h .nil
  | cons a _ ih => exact .cons a ih
theorem SqT_put {H : Hp} {d u : Addr} {o : HO} {kvs : List (Key × V)} {xs : List V} (h : H d = some (.dK kvs)) (x : SqT K H u xs) : SqT K (upd H d o) u xs := by
  rcases x with (x | ⟨q, x⟩) | x
  · exact .inl (.inl (by rw [upd_ne (fun e => by rw [e, h] at x; simp at x)]; exact x))
  · exact .inl (.inr ⟨q, by rw [upd_ne (fun e => by rw [e, h] at x; simp at x)]; exact x⟩)
  · exact .inr x
theorem BoA.put {H : Hp} {d : Addr} {o : HO} {kvs : List (Key × V)} {us : List Addr} {rs : List Pr} (h : H d = some (.dK kvs)) (x : BoA K H us rs) : BoA K (upd H d o) us rs := by
  induction x with
  | nil => exact .nil
  | cons a _ ih => exact .cons (SqT_put h a) ih
theorem fresh_name {rs : List Pr} {i : Nat} {r : Pr} (nd : (rs.map Pr.name).Nodup) (h : rs[i]? = some r) : r.name ∉ (rs.take i).map Pr.name := by
  intro m
  rw [List.map_take] at m
  obtain ⟨j, hj, e⟩ := List.mem_take_iff_getElem.mp m
  have hi : i < rs.length := by
    rcases Nat.lt_or_ge i rs.length with q | q
    · exact q
    · rw [List.getElem?_eq_none q] at h; cases h
  have hr : rs[i] = r := by rw [List.getElem?_eq_getElem hi] at h; exact Option.some.inj h
  have e2 : (rs.map Pr.name)[i]'(by simpa using hi) = r.name := by rw [List.getElem_map, hr]
  have hl : i < (rs.map Pr.name).length := by simpa using hi
  exact (List.pairwise_iff_getElem.mp nd) j i (by omega) hl (by omega) (e.trans e2.symm)
theorem no_val {kvs : List (Key × V)} {k : Key} (h : kvs.any (fun kv => decide (kv.1 = k)) = false) : valV kvs k = none := by
  unfold valV
  rw [List.find?_eq_none.mpr]
  · rfl
  · intro x hx q
    have := List.any_eq_false.mp h x hx
    exact this q
theorem ok_checked {f : Addr} {fd : FuncData} {tk : Tok} (F : Fun K "_checked_bodies" "_checked_bodies" sChecked_bodies f fd) (mEnum : mg "enumerate" = none) (mTuple : mg "tuple" = none) (mg_MOST_PROCEDURES : mg "MOST_PROCEDURES" = some (.int 16 tk))
    (c_is_name : Cal P w K mg base CX0 1 "is_name" ["value"] spIsName) (c__is_body : Cal P w K mg base CX0 3 "_is_body" ["steps"] (spIsBody K)) : FnOk P w K mg base CX0 4 f fd ["procedures"] (spChecked K) := by
  refine F.ok scChecked_bodies (fun vs H Q E h => ?_) (fun cdv A outer s H vs Q E hr h => ?_)
  · obtain ⟨a, ps, rs, rfl, _⟩ := h
    rfl
  · obtain ⟨a, ps, rs, rfl, ha, pr, few, ne, nd, ri, k⟩ := h
    have hr__is_body := hr
    have hr_is_name := hr.mono (by omega : 1 ≤ 3)
    have ln : ps.length = rs.length := Paired.length pr
    have hu : (A.deeper (PyProof.Rows.envOfC "_checked_bodies" (defScope sChecked_bodies) s.heap.objs.size f cdv)).units + 1 < cLine := by have := hr.units; omega
    refine ⟨_, (pss_cons (ps_set (i := 1) scChecked_bodies.nd rfl (by first | exact Or.inl rfl | exact Or.inr rfl) pe_dnewK)
      (pss_cons (ps_for PassesOwn.never rfl (pi_enumS (by rfl) mEnum (pa_cons (pv 0) pa_nil) (by decide) (by decide)) (pg_tup rfl (pgs_cons (pg_name (i := 2) scChecked_bodies.nd rfl (by first | exact Or.inl rfl | exact Or.inr rfl)) (pgs_cons (pg_tup rfl (pgs_cons (pg_name (i := 3) scChecked_bodies.nd rfl (by first | exact Or.inl rfl | exact Or.inr rfl)) (pgs_cons (pg_name (i := 4) scChecked_bodies.nd rfl (by first | exact Or.inl rfl | exact Or.inr rfl)) pgs_nil))) pgs_nil)))
        (pss_cons (ps_if (PW.pt (pw_or (pt_cmpR op_gt (pv 2) (pe_glob (v := .int 16) rfl mg_MOST_PROCEDURES ⟨_, rfl⟩) (nomark _)) (pw_or (pt_not (pt_val (pe_cal c_is_name hr_is_name pass0 (pa_cons (pv 3) pa_nil)))) (pw_or (pt_cmp (pc_din hu (pv 3) (pv 1))) (pw_or1 (pt_not (pt_val (pe_cal c__is_body hr__is_body pass0 (pa_cons (pv 4) pa_nil)))))))))
          (pss_one ps_never) pss_nil)
        (pss_one (ps_asg (pe_callTy (k_tuple K) (by rfl) mTuple (by decide +kernel) (pa_cons (pv 4) pa_nil)) (pg_sub (pv 1) (pv 3) (set_dict hu))))))
      (pss_cons (ps_if (pt_not (pt_truth (pv 1) (by intro _; rfl)))
        (pss_one ps_never) pss_nil)
      (pss_one (ps_ret (pv 1)))))), ?_⟩
    refine fun d hd => ?_
    have s0 := Same.new (o := .dK []) hd
    refine ⟨_, rfl, a, ps.map V.ref, rfl, ?_⟩
    rcases ha with ha | ha
    · refine .inl ⟨SameL s0 ha, ?_⟩
      refine for_it walk_enumSL (fun i σ H' => ∃ (us : List Addr) (vl vn vb : Option V), σ = [some (.ref a), some (.ref d), vl, vn, vb] ∧ us.length = i ∧ H' d = some (.dK (kvsOf (rs.take i) us)) ∧ BoA K H' us (rs.take i) ∧ Same H H') ⟨[], none, none, none, rfl, rfl, upd_same, .nil, s0⟩ (fun i σ H' _ q => SameL q.choose_spec.choose_spec.choose_spec.choose_spec.2.2.2.2 ha) ?_ ?_
      · rintro i x σ H1 H2 hi ⟨us, vl, vn, vb, rfl, lu, h1, bo, s1⟩ ⟨T, x1, y, rfl, hT, rfl, e1, e2⟩
        obtain rfl : x1 = .int (1 + (i : Nat)) := (Option.some.inj e1).symm
        have e2 : (ps.map V.ref)[i]? = some y := e2
        rw [List.getElem?_map] at e2
        obtain ⟨p, hp, rfl⟩ := Option.map_eq_some_iff.mp e2
        obtain ⟨r, hr2, pa⟩ := paired_get pr hp
        have rm : r ∈ rs := List.mem_of_getElem? hr2
        obtain ⟨nm, bb, ls⟩ := ri r rm
        have ir : i < rs.length := by rw [← ln]; simpa using hi
        have s2 := s1.trans (Same.new (o := .tup [.int (1 + (i : Nat)), .ref p]) hT)
        have p2 := pa.same s2
        have h2 := (Same.new (o := .tup [.int (1 + (i : Nat)), .ref p]) hT) _ _ h1
        have bo2 := bo.same (Same.new (o := .tup [.int (1 + (i : Nat)), .ref p]) hT)
        have lt : us.length = (rs.take i).length := by rw [lu, List.length_take]; omega
        refine ⟨T, _, rfl, .of upd_same, rfl, _, _, rfl, _, _, rfl, p, _, rfl, p2.1, rfl, _, _, rfl, _, _, rfl, rfl, rfl, ?_⟩
        refine ⟨_, rfl, _, _, rfl, rfl, _, rfl, ite2 (fun q => by have := of_decide_eq_true q; omega) fun _ => ?_⟩
        refine ⟨_, rfl, r.name, rfl, Nat.le_trans nm.len (by decide), fun H3 s3 => ⟨_, rfl, ?_⟩⟩
        show if (!nameB r.name) = true then _ else _
        rw [(nameB_iff _).mpr nm]
        refine iteF ?_
        have an : (kvsOf (rs.take i) us).any (fun kv => decide (kv.1 = Sum.inr r.name)) = false := by
          rw [kvsOf_any lt, decide_eq_false (fresh_name nd hr2)]
        refine ⟨_, rfl, _, rfl, d, none, rfl, .inl ⟨_, Sum.inr r.name, .inl (s3 _ _ h2), rfl, (no_val an).symm⟩, _, rfl, iteF ?_⟩
        have p3 := p2.same s3
        refine ⟨_, rfl, r.b, r.ts, r.ss, rfl, p3.2.1, p3.2.2, ls, fun H4 s4 => ⟨_, rfl, ?_⟩⟩
        show if (!bodyB r.ss) = true then _ else _
        rw [bb]
        refine iteF ?_
        have h4 := s4 _ _ (s3 _ _ h2)
        have bo4 := (bo2.same s3).same s4
        have p4 := p3.same s4
        have s5 := (s2.trans s3).trans s4
        have tk1 : rs.take (i + 1) = rs.take i ++ [r] := by rw [List.take_add_one, hr2]; rfl
        have kl : (kvsOf (rs.take i) us).length < sizeLine := by
          rw [kvsOf_len lt, List.length_take]
          exact Nat.lt_of_lt_of_le (by omega : _ < 17) (by decide)
        have pk : ∀ u : Addr, putK (kvsOf (rs.take i) us) (Sum.inr r.name) (V.ref u) = kvsOf (rs.take (i + 1)) (us ++ [u]) := fun u => by
          unfold putK
          rw [an, tk1, kvsOf_snoc r u lt]; rfl
        have d0 : H d = none := hd
        rcases p4.2.1 with hb | hb
        · refine ⟨_, rfl, r.b, _, rfl, .inl ⟨hb, fun u hu => ?_⟩⟩
          have h5 := (Same.new (o := .tup (r.ts.map V.ref)) hu) _ _ h4
          have bo5 := bo4.same (Same.new (o := .tup (r.ts.map V.ref)) hu)
          refine ⟨_, rfl, _, rfl, d, _, rfl, .inl ⟨_, Sum.inr r.name, h5, rfl, kl, rfl⟩, ?_⟩
          refine ⟨us ++ [u], _, _, _, rfl, by rw [List.length_append, lu]; rfl, by rw [upd_same, pk u], ?_, (s5.trans (Same.new hu)).mut d0⟩
          rw [tk1]
          exact paired_snoc (bo5.put h5) (SqT_put h5 (.of upd_same))
        · refine ⟨_, rfl, r.b, _, rfl, .inr ⟨hb, ?_⟩⟩
          refine ⟨_, rfl, _, rfl, d, _, rfl, .inl ⟨_, Sum.inr r.name, h4, rfl, kl, rfl⟩, ?_⟩
          refine ⟨us ++ [r.b], _, _, _, rfl, by rw [List.length_append, lu]; rfl, by rw [upd_same, pk r.b], ?_, s5.mut d0⟩
          rw [tk1]
          exact paired_snoc (bo4.put h4) (SqT_put h4 hb)
      · rintro σ H1 ⟨us, vl, vn, vb, rfl, lu, h1, bo, s1⟩
        rw [List.length_map, ln, List.take_of_length_le (Nat.le_refl _)] at h1 bo
        have lu : us.length = rs.length := by rw [lu, List.length_map, ln]
        refine ⟨_, rfl, _, .inr (.inr ⟨_, h1, rfl⟩), ?_⟩
        have em : (kvsOf rs us).isEmpty = false := by
          cases hk : kvsOf rs us with
          | nil =>
            have q := kvsOf_len lu
            rw [hk] at q
            exact absurd (List.length_eq_zero_iff.mp q.symm) ne
          | cons _ _ => rfl
        rw [em]
        refine iteF ?_
        exact ⟨_, rfl, k d us H1 h1 bo s1⟩
    · refine .inr ⟨s0.tup ha, ?_⟩
      refine for_it walk_enumST (fun i σ H' => ∃ (us : List Addr) (vl vn vb : Option V), σ = [some (.ref a), some (.ref d), vl, vn, vb] ∧ us.length = i ∧ H' d = some (.dK (kvsOf (rs.take i) us)) ∧ BoA K H' us (rs.take i) ∧ Same H H') ⟨[], none, none, none, rfl, rfl, upd_same, .nil, s0⟩ (fun i σ H' _ q => q.choose_spec.choose_spec.choose_spec.choose_spec.2.2.2.2.tup ha) ?_ ?_
      · rintro i x σ H1 H2 hi ⟨us, vl, vn, vb, rfl, lu, h1, bo, s1⟩ ⟨T, x1, y, rfl, hT, rfl, e1, e2⟩
        obtain rfl : x1 = .int (1 + (i : Nat)) := (Option.some.inj e1).symm
        have e2 : (ps.map V.ref)[i]? = some y := e2
        rw [List.getElem?_map] at e2
        obtain ⟨p, hp, rfl⟩ := Option.map_eq_some_iff.mp e2
        obtain ⟨r, hr2, pa⟩ := paired_get pr hp
        have rm : r ∈ rs := List.mem_of_getElem? hr2
        obtain ⟨nm, bb, ls⟩ := ri r rm
        have ir : i < rs.length := by rw [← ln]; simpa using hi
        have s2 := s1.trans (Same.new (o := .tup [.int (1 + (i : Nat)), .ref p]) hT)
        have p2 := pa.same s2
        have h2 := (Same.new (o := .tup [.int (1 + (i : Nat)), .ref p]) hT) _ _ h1
        have bo2 := bo.same (Same.new (o := .tup [.int (1 + (i : Nat)), .ref p]) hT)
        have lt : us.length = (rs.take i).length := by rw [lu, List.length_take]; omega
        refine ⟨T, _, rfl, .of upd_same, rfl, _, _, rfl, _, _, rfl, p, _, rfl, p2.1, rfl, _, _, rfl, _, _, rfl, rfl, rfl, ?_⟩
        refine ⟨_, rfl, _, _, rfl, rfl, _, rfl, ite2 (fun q => by have := of_decide_eq_true q; omega) fun _ => ?_⟩
        refine ⟨_, rfl, r.name, rfl, Nat.le_trans nm.len (by decide), fun H3 s3 => ⟨_, rfl, ?_⟩⟩
        show if (!nameB r.name) = true then _ else _
        rw [(nameB_iff _).mpr nm]
        refine iteF ?_
        have an : (kvsOf (rs.take i) us).any (fun kv => decide (kv.1 = Sum.inr r.name)) = false := by
          rw [kvsOf_any lt, decide_eq_false (fresh_name nd hr2)]
        refine ⟨_, rfl, _, rfl, d, none, rfl, .inl ⟨_, Sum.inr r.name, .inl (s3 _ _ h2), rfl, (no_val an).symm⟩, _, rfl, iteF ?_⟩
        have p3 := p2.same s3
        refine ⟨_, rfl, r.b, r.ts, r.ss, rfl, p3.2.1, p3.2.2, ls, fun H4 s4 => ⟨_, rfl, ?_⟩⟩
        show if (!bodyB r.ss) = true then _ else _
        rw [bb]
        refine iteF ?_
        have h4 := s4 _ _ (s3 _ _ h2)
        have bo4 := (bo2.same s3).same s4
        have p4 := p3.same s4
        have s5 := (s2.trans s3).trans s4
        have tk1 : rs.take (i + 1) = rs.take i ++ [r] := by rw [List.take_add_one, hr2]; rfl
        have kl : (kvsOf (rs.take i) us).length < sizeLine := by
          rw [kvsOf_len lt, List.length_take]
          exact Nat.lt_of_lt_of_le (by omega : _ < 17) (by decide)
        have pk : ∀ u : Addr, putK (kvsOf (rs.take i) us) (Sum.inr r.name) (V.ref u) = kvsOf (rs.take (i + 1)) (us ++ [u]) := fun u => by
          unfold putK
          rw [an, tk1, kvsOf_snoc r u lt]; rfl
        have d0 : H d = none := hd
        rcases p4.2.1 with hb | hb
        · refine ⟨_, rfl, r.b, _, rfl, .inl ⟨hb, fun u hu => ?_⟩⟩
          have h5 := (Same.new (o := .tup (r.ts.map V.ref)) hu) _ _ h4
          have bo5 := bo4.same (Same.new (o := .tup (r.ts.map V.ref)) hu)
          refine ⟨_, rfl, _, rfl, d, _, rfl, .inl ⟨_, Sum.inr r.name, h5, rfl, kl, rfl⟩, ?_⟩
          refine ⟨us ++ [u], _, _, _, rfl, by rw [List.length_append, lu]; rfl, by rw [upd_same, pk u], ?_, (s5.trans (Same.new hu)).mut d0⟩
          rw [tk1]
          exact paired_snoc (bo5.put h5) (SqT_put h5 (.of upd_same))
        · refine ⟨_, rfl, r.b, _, rfl, .inr ⟨hb, ?_⟩⟩
          refine ⟨_, rfl, _, rfl, d, _, rfl, .inl ⟨_, Sum.inr r.name, h4, rfl, kl, rfl⟩, ?_⟩
          refine ⟨us ++ [r.b], _, _, _, rfl, by rw [List.length_append, lu]; rfl, by rw [upd_same, pk r.b], ?_, s5.mut d0⟩
          rw [tk1]
          exact paired_snoc (bo4.put h4) (SqT_put h4 hb)
      · rintro σ H1 ⟨us, vl, vn, vb, rfl, lu, h1, bo, s1⟩
        rw [List.length_map, ln, List.take_of_length_le (Nat.le_refl _)] at h1 bo
        have lu : us.length = rs.length := by rw [lu, List.length_map, ln]
        refine ⟨_, rfl, _, .inr (.inr ⟨_, h1, rfl⟩), ?_⟩
        have em : (kvsOf rs us).isEmpty = false := by
          cases hk : kvsOf rs us with
          | nil =>
            have q := kvsOf_len lu
            rw [hk] at q
            exact absurd (List.length_eq_zero_iff.mp q.symm) ne
          | cons _ _ => rfl
        rw [em]
        refine iteF ?_
        exact ⟨_, rfl, k d us H1 h1 bo s1⟩
end
end Mf
namespace Mf
open PySem L2
section
variable {P : Program} {w : World} {K : PySem.W.Frag} {mg : Str → Option Value} {base : Heap}

/-! ### _check_callees, of bodies that are right -/
def calling : List Str := ["call", "try"]
def Called (rs : List Pr) : Prop := ∀ r ∈ rs, ∀ s ∈ r.ss, s.1 ∈ calling → s.2 ∈ rs.map Pr.name
def spCallees (K : PySem.W.Frag) : Sp := fun vs H Q _ => ∃ (d : Addr) (us : List Addr) (rs : List Pr), vs = [.ref d] ∧ H d = some (.dK (kvsOf rs us)) ∧ BoA K H us rs ∧ (∀ r ∈ rs, StA H r.ts r.ss) ∧ Called rs ∧ ∀ H', Same H H' → Q .non H'
theorem kvsOf_get : ∀ {rs : List Pr} {us : List Addr} {i : Nat} {k : Key} {x : V}, (kvsOf rs us)[i]? = some (k, x) → ∃ r u, rs[i]? = some r ∧ us[i]? = some u ∧ k = Sum.inr r.name ∧ x = .ref u
  | r :: rs, u :: us, 0, k, x, h => by
    cases h
    exact ⟨r, u, rfl, rfl, rfl, rfl⟩
  | r :: rs, u :: us, i + 1, k, x, h => kvsOf_get (rs := rs) (us := us) (i := i) h
  | [], us, i, k, x, h => by simp [kvsOf] at h
  | r :: rs, [], i, k, x, h => by simp [kvsOf] at h
theorem some_val {kvs : List (Key × V)} {k : Key} (h : kvs.any (fun kv => decide (kv.1 = k)) = true) : ∃ v, valV kvs k = some v := by
  obtain ⟨x, hx, hk⟩ := List.any_eq_true.mp h
  unfold valV
  cases e : kvs.find? fun kv => decide (kv.1 = k) with
  | none => exact absurd hk (List.find?_eq_none.mp e x hx)
  | some y => exact ⟨y.2, rfl⟩
abbrev sCheck_callees : Stmt := top 22
theorem scCheck_callees : FnScope ["bodies", "line", "body", "kind", "name"] ["bodies"] (defScope sCheck_callees) := ⟨rfl, rfl, rfl, by decide +kernel, rfl, by decide +kernel, by decide +kernel⟩
theorem ok_callees {f aC : Addr} {fd : FuncData} (F : Fun K "_check_callees" "_check_callees" sCheck_callees f fd) (mEnum : mg "enumerate" = none) (mg_CALLING_KINDS : mg "CALLING_KINDS" = some (.ref aC)) (qC : ∀ H, SqT K H aC (calling.map V.str)) : FnOk P w K mg base CX0 1 f fd ["bodies"] (spCallees K) := by
  refine F.ok scCheck_callees (fun vs H Q E h => ?_) (fun cdv A outer s H vs Q E hr h => ?_)
  · obtain ⟨d, us, rs, rfl, _⟩ := h
    rfl
  · obtain ⟨d, us, rs, rfl, hd, bo, st, ca, k⟩ := h
    have hu : (A.deeper (PyProof.Rows.envOfC "_check_callees" (defScope sCheck_callees) s.heap.objs.size f cdv)).units + 1 < cLine := by have := hr.units; omega
    refine ⟨_, (pss_one (ps_lock (ps_for PassesOwn.never rfl (pi_enumV (by rfl) mEnum (pv 0) (by decide) (by decide)) (pg_tup rfl (pgs_cons (pg_name (i := 1) scCheck_callees.nd rfl (by first | exact Or.inl rfl | exact Or.inr rfl)) (pgs_cons (pg_name (i := 2) scCheck_callees.nd rfl (by first | exact Or.inl rfl | exact Or.inr rfl)) pgs_nil)))
        (pss_one (ps_for PassesOwn.never rfl (pi_tup (pv 2)) (pg_tup rfl (pgs_cons (pg_name (i := 3) scCheck_callees.nd rfl (by first | exact Or.inl rfl | exact Or.inr rfl)) (pgs_cons (pg_name (i := 4) scCheck_callees.nd rfl (by first | exact Or.inl rfl | exact Or.inr rfl)) pgs_nil)))
          (pss_one (ps_if (PW.pt (pw_and (pt_cmpR (oin K) (pv 3) (pe_glob (v := .ref _) rfl mg_CALLING_KINDS rfl) (by rfl)) (pw_and1 (pt_cmp (pc_dnotin hu (pv 4) (pv 0))))))
            (pss_one ps_never) pss_nil))))))), ?_⟩
    refine ⟨d, _, hd, trivial, fun od => ?_⟩
    have lt : us.length = rs.length := Paired.length bo
    have bf : BoA K (upd H d (.frz od (.dK (kvsOf rs us)))) us rs := bo.put hd
    refine ⟨_, rfl, d, od, _, rfl, upd_same, ?_⟩
    refine for_it walk_enumV (fun i σ H' => ∃ (v1 v2 v3 v4 : Option V), σ = [some (.ref d), v1, v2, v3, v4] ∧ Same (upd H d (.frz od (.dK (kvsOf rs us)))) H') ⟨none, none, none, none, rfl, Same.refl _⟩ (fun i σ H' _ q => q.choose_spec.choose_spec.choose_spec.choose_spec.2 _ _ upd_same) ?_ ?_
    · rintro i x σ H1 H2 hi ⟨v1, v2, v3, v4, rfl, s1⟩ ⟨T, y, ky, rfl, hT, rfl, hx⟩
      obtain ⟨r, u, hr1, hu1, rfl, rfl⟩ := kvsOf_get hx
      obtain ⟨r', hr2, sq⟩ := paired_get bf hu1
      rw [hr1] at hr2
      cases hr2
      have rm : r ∈ rs := List.mem_of_getElem? hr1
      have s2 := s1.trans (Same.new (o := .tup [.int (1 + (i : Nat)), .ref u]) hT)
      refine ⟨T, _, rfl, .of upd_same, rfl, _, _, rfl, _, _, rfl, rfl, ?_⟩
      refine ⟨_, rfl, u, rfl, ⟨_, s2.tup sq⟩, ?_⟩
      refine for_it walk_tup (fun j σ H' => ∃ (v3 v4 : Option V), σ = [some (.ref d), some (.int (1 + (i : Nat))), some (.ref u), v3, v4] ∧ Same (upd H d (.frz od (.dK (kvsOf rs us)))) H') ⟨v3, v4, rfl, s2⟩ (fun j σ H' _ q => q.choose_spec.choose_spec.2.tup sq) ?_ ?_
      · rintro j x σ H3 H4 hj ⟨w3, w4, rfl, s3⟩ ⟨rfl, hx⟩
        rw [List.getElem?_map] at hx
        obtain ⟨t, ht, rfl⟩ := Option.map_eq_some_iff.mp hx
        obtain ⟨sp, hsp, hts⟩ := (st r rm).get ht
        have hts : (upd H d (.frz od (.dK (kvsOf rs us)))) t = some (.tup [.str sp.1, .str sp.2]) := by
          rw [upd_ne (fun e => by rw [e, hd] at hts; simp at hts)]; exact hts
        refine ⟨t, _, rfl, .of (s3 _ _ hts), rfl, _, _, rfl, _, _, rfl, rfl, ?_⟩
        refine ⟨_, rfl, aC, _, rfl, .inr (qC _), rfl, flat_strs calling, _, rfl, ?_⟩
        show if inV (.str sp.1) (calling.map V.str) = true then _ else _
        rw [inV_str]
        refine ite2 (fun q => ?_) fun q => ?_
        · have mm := ca r rm sp (StA.mem hsp) (of_decide_eq_true q)
          obtain ⟨v, hv⟩ := some_val (kvs := kvsOf rs us) (k := Sum.inr sp.2) (by rw [kvsOf_any lt]; exact decide_eq_true mm)
          refine ⟨_, rfl, _, rfl, d, some v, rfl, .inl ⟨_, Sum.inr sp.2, .inr ⟨od, s3 _ _ upd_same⟩, rfl, hv.symm⟩, _, rfl, iteF ?_⟩
          exact ⟨_, _, rfl, s3⟩
        · exact ⟨_, _, rfl, s3⟩
      · rintro σ H3 ⟨w3, w4, rfl, s3⟩
        exact ⟨_, _, w3, w4, rfl, s3⟩
    · rintro σ H1 ⟨v1, v2, v3, v4, rfl, s1⟩
      refine ⟨s1 _ _ upd_same, k _ fun b o hb => ?_⟩
      by_cases e : b = d
      · subst e
        rw [hd] at hb
        cases hb
        exact upd_same
      · rw [upd_ne e]
        refine s1 _ _ ?_
        rw [upd_ne e]; exact hb
end
end Mf
namespace Mf
open PySem L2
/-! ### the class NameSet -/
def flM (t : Addr) : List (Str × V) := putF "members" (.ref t) []
theorem flM_get (t : Addr) : (flM t).lookup ("members" : Str) = some (.ref t) := by
  unfold flM
  rw [lookup_putF, if_pos rfl]
/-- a NameSet stands at p, its members ms -/
def NSet (C : Addr) (H : Hp) (p : Addr) (ms : List Str) : Prop := ∃ dx t, H p = some (.ins C dx (flM t)) ∧ H t = some (.tup (ms.map V.str)) ∧ Up ms ∧ ms.length < 4000 ∧ ∀ z ∈ ms, PyData.strOk z = true
theorem NSet.same {C : Addr} {H H' : Hp} {p : Addr} {ms : List Str} (h : NSet C H p ms) (s : Same H H') : NSet C H' p ms := let ⟨dx, t, a, b, c⟩ := h; ⟨dx, t, s _ _ a, s _ _ b, c⟩
theorem NSet.kp {C a : Addr} {H H' : Hp} {p : Addr} {ms : List Str} {n : Nat} (h : NSet C H p ms) (s : Kp a H H') (S : Src H a n) : NSet C H' p ms :=
  let ⟨dx, t, x, y, c⟩ := h
  let ⟨_, _, _, e, _⟩ := S
  ⟨dx, t, s _ _ (ne_of x e (by intro z; cases z)) x, s _ _ (ne_of y e (by intro z; cases z)) y, c⟩
structure NsC (K : PySem.W.Frag) (mg : Str → Option Value) (C : Addr) : Prop where
  ins : C8.InsC K C
  nM : NoAttr K C "members"
  mgC : mg "NameSet" = some (.ref C)
  kL : PySem.W.kitOne K (.type "list") (.ref C) = some false
  kT : PySem.W.kitOne K (.type "tuple") (.ref C) = some false
  bT : PySem.W.notFirst K C (.type "tuple") = true
  bL : PySem.W.notFirst K C (.type "list") = true
  mIsi : mg "isinstance" = none
  mTuple : mg "tuple" = none
  mSorted : mg "sorted" = none
  mSet : mg "set" = none
  mAll : mg "all" = none
  mLen : mg "len" = none
/-- what NameSet(..) takes -/
inductive ArgS (K : PySem.W.Frag) (C : Addr) (H : Hp) : V → List Str → Prop
  | lst {a : Addr} {xs : List Str} (e : H a = some (.lst (xs.map V.str))) : ArgS K C H (.ref a) xs
  | tup {a : Addr} {xs : List Str} (e : H a = some (.tup (xs.map V.str))) : ArgS K C H (.ref a) xs
  | emp {a : Addr} {o : Obj} (e : K.lookup a = some o) (c : o.cls = .type "tuple") (s : ∀ H, SqT K H a []) : ArgS K C H (.ref a) []
  | own {a : Addr} {xs : List Str} (e : NSet C H a xs) : ArgS K C H (.ref a) xs
section
variable {P : Program} {w : World} {K : PySem.W.Frag} {mg : Str → Option Value} {base : Heap} {C : Addr}
theorem NsC.isi {H : Hp} {p : Addr} {dx : Addr} {fs : List (Str × V)} (T : NsC K mg C) (h : H p = some (.ins C dx fs)) : TyX K H (.ref p) (.ref C) := .base (.ins h T.ins.cl T.ins.ha T.ins.hn T.ins.htk T.ins.hm)

def spNsInit (K : PySem.W.Frag) (C : Addr) : Sp := fun vs H Q _ => ∃ (p dx : Addr) (x : V) (xs : List Str), vs = [.ref p, x] ∧ H p = some (.ins C dx []) ∧ ArgS K C H x xs ∧ xs.length < 4000 ∧
  ∀ t ms H', Up ms → (∀ z, z ∈ ms ↔ z ∈ xs) → H' p = some (.ins C dx (flM t)) → H' t = some (.tup (ms.map V.str)) → (∀ b o, b ≠ p → H b = some o → H' b = some o) → Q .non H'
abbrev sNameSetInit : Stmt := inClass (top 6) 0
theorem scNameSetInit : FnScope ["self", "names"] ["self", "names"] (defScope sNameSetInit) := ⟨rfl, rfl, rfl, by decide +kernel, rfl, by decide +kernel, by decide +kernel⟩
theorem ok_nsInit {f : Addr} {fd : FuncData} {dvs : List V} {kws : List (Str × V)} {ar : Arguments} (F : FunD K "__init__" "NameSet.__init__" ar (defBody sNameSetInit) (defScope sNameSetInit) dvs kws f fd) (T : NsC K mg C) : FnOk P w K mg base CX0 1 f fd ["self", "names"] (spNsInit K C) := by
  refine F.ok scNameSetInit (fun vs H Q E h => ?_) (fun cdv A outer s H vs Q E hr h => ?_)
  · obtain ⟨p, dx, x, xs, rfl, _⟩ := h
    rfl
  · obtain ⟨p, dx, x, xs, rfl, hp, ax, few, k⟩ := h
    have mIsi := T.mIsi; have mg_NameSet := T.mgC; have mTuple := T.mTuple; have mSorted := T.mSorted; have mSet := T.mSet
    refine ⟨_, (C8.pss_cut (ps_if (pt_val (pe_callB (k_isi K) (by rfl) mIsi (by decide +kernel) (pa_cons (pv 1) (pa_cons (pe_glob (v := .ref _) rfl mg_NameSet rfl) pa_nil))))
        (pss_one (ps_set (i := 1) scNameSetInit.nd rfl (by first | exact Or.inl rfl | exact Or.inr rfl) (fldK K (pv 1)))) pss_nil)
      (pss_one (ps_fld (pv 0) (pe_callTy (k_tuple K) (by rfl) mTuple (by decide +kernel) (pa_cons (pe_callB (cr_sortedX rfl) (by rfl) mSorted (by decide +kernel) (pa_cons (pe_callTy (cr_setS rfl) (by rfl) mSet (by decide +kernel) (pa_cons (pv 1) pa_nil)) pa_nil)) pa_nil)) rfl))), ?_⟩
    refine ⟨fun σ' H' => H' = H ∧ ∃ c, σ' = [some (.ref p), some (.ref c)] ∧ (SqL K H c (xs.map V.str) ∨ SqT K H c (xs.map V.str)), ?_, ?_⟩
    · cases ax with
      | lst e => exact ⟨_, rfl, _, _, _, _, false, rfl, .own C, .base (.lst e), T.kL, _, rfl, iteF ⟨rfl, _, rfl, .inl (.of e)⟩⟩
      | tup e => exact ⟨_, rfl, _, _, _, _, false, rfl, .own C, .base (.tup e), T.kT, _, rfl, iteF ⟨rfl, _, rfl, .inr (.of e)⟩⟩
      | emp e c s => exact ⟨_, rfl, _, _, _, _, false, rfl, .own C, .kTuple e c, T.kT, _, rfl, iteF ⟨rfl, _, rfl, .inr (s H)⟩⟩
      | own e =>
        obtain ⟨dy, t, h1, h2, _⟩ := e
        exact ⟨_, rfl, _, _, _, _, true, rfl, .own C, T.isi h1, T.ins.me, _, rfl, iteT ⟨_, rfl, _, C, dy, _, _, rfl, h1, T.ins.cl, T.nM, flM_get t, rfl, t, rfl, .inr (.of h2)⟩⟩
    · rintro σ' H' ⟨rfl, c, rfl, hc⟩
      refine ⟨_, rfl, c, xs, rfl, hc, few, fun q l nq nd m => ?_⟩
      refine ⟨q, l, rfl, upd_same, fun ys r so m2 len nr => ?_⟩
      refine ⟨r, _, rfl, .inl ⟨.of upd_same, fun t nt => ?_⟩⟩
      have up : Up ys := up_of so (nodup_len nd (fun z hz => (m2 z).mpr hz) len)
      have h1 : Same H' (upd (upd (upd H' q (.ext fun h => TxR P w h q l)) r (.lst (ys.map V.str))) t (.tup (ys.map V.str))) := ((Same.new nq).trans (Same.new nr)).trans (Same.new nt)
      have ht : t ≠ p := ne_none nt ((Same.new nr) _ _ ((Same.new nq) _ _ hp))
      refine ⟨_, rfl, p, C, dx, [], rfl, h1 _ _ hp, T.ins.cl, T.nM, (by show 0 < 1000; decide), ?_⟩
      refine k t ys _ up (fun z => (m2 z).trans (m z)) upd_same (by rw [upd_ne ht, upd_same]) fun b o nb e => ?_
      rw [upd_ne nb]
      exact h1 _ _ e
theorem ArgS.same {H H' : Hp} {x : V} {xs : List Str} (h : ArgS K C H x xs) (s : Same H H') : ArgS K C H' x xs := by
  cases h with
  | lst e => exact .lst (s _ _ e)
  | tup e => exact .tup (s _ _ e)
  | emp e c q => exact .emp e c q
  | own e => exact .own (e.same s)
/-- NameSet(x): a new one -/
theorem make_ns {H : Hp} {x : V} {xs : List Str} {Q : VK} {E : XK} (ax : ArgS K C H x xs) (few : xs.length < 4000) (ok : ∀ z ∈ xs, PyData.strOk z = true)
    (k : ∀ p ms H', NSet C H' p ms → (∀ z, z ∈ ms ↔ z ∈ xs) → H p = none → Same H H' → Q (.ref p) H') :
    ∀ p dx, H p = none → H dx = none → dx ≠ p → spNsInit K C [.ref p, x] (upd (upd H dx (.own p)) p (.ins C dx [])) (fun v H2 => v = .non ∧ Q (.ref p) H2) E := by
  intro p dx hp hd ne
  have s1 : Same H (upd (upd H dx (.own p)) p (.ins C dx [])) := Same.mut (Same.new hd) hp
  refine ⟨p, dx, x, xs, rfl, upd_same, ax.same s1, few, fun t ms H' up m h1 h2 kp => ⟨rfl, k p ms H' ⟨dx, t, h1, h2, up, ?_, fun z hz => ok z ((m z).mp hz)⟩ m hp fun b o e => kp b o (ne_of_none e hp) (s1 _ _ e)⟩⟩
  exact Nat.lt_of_le_of_lt (nodup_le up.nd fun z hz => (m z).mp hz) few
theorem ns_grow {H : Hp} {p dx : Addr} (hp : H p = none) (hd : H dx = none) : Same H (upd (upd H dx (.own p)) p (.ins C dx [])) := Same.mut (Same.new hd) hp
theorem ns_after {H H' : Hp} {p dx t : Addr} {xs ms : List Str} (few : xs.length < 4000) (ok : ∀ z ∈ xs, PyData.strOk z = true) (hp : H p = none) (hd : H dx = none) (up : Up ms) (m : ∀ z, z ∈ ms ↔ z ∈ xs)
    (h1 : H' p = some (.ins C dx (flM t))) (h2 : H' t = some (.tup (ms.map V.str))) (kp : ∀ b o, b ≠ p → (upd (upd H dx (.own p)) p (.ins C dx [])) b = some o → H' b = some o) : NSet C H' p ms ∧ Same H H' :=
  ⟨⟨dx, t, h1, h2, up, Nat.lt_of_le_of_lt (nodup_le up.nd fun z hz => (m z).mp hz) few, fun z hz => ok z ((m z).mp hz)⟩, fun b o e => kp b o (ne_of_none e hp) ((ns_grow hp hd) b o e)⟩
end
end Mf
/-! Any walk; data of steps and procedures compared; lists of a heap that keep their kind. -/
namespace Mf
open PySem L2
theorem it_any {J : It} {n : Nat} {G : Hp → Prop} {Y : Nat → Hp → V → Hp → Prop} (w : Walk J n G Y) {B : (Hp → Prop) → V → Hp → Prop} {Qd : Hp → Prop} {H1 : Hp} (Pv : Nat → Hp → Prop) (h0 : Pv 0 H1) (hG : ∀ i H, i ≤ n → Pv i H → G H)
    (hs : ∀ i x H H', i < n → Pv i H → Y i H x H' → B (Pv (i + 1)) x H') (hd : ∀ H, Pv n H → Qd H) :
    ∃ W : Nat → Nat → Hp → Prop, (∃ m, W 0 m H1) ∧ ∀ i m H, W i m H → (J.stop i H ∧ Qd H) ∨ (J.go i H ∧ ∃ Nx : Hp → Prop, (∀ H', Nx H' → ∃ m', m' < m ∧ W (i + 1) m' H') ∧ ∀ x H', J.yld i H x H' → B Nx x H') := by
  refine ⟨fun i m H => m = n - i ∧ i ≤ n ∧ Pv i H, ⟨n, by simp, Nat.zero_le _, h0⟩, ?_⟩
  rintro i m H ⟨rfl, hi, p⟩
  have q := hG i H hi p
  by_cases hlt : i < n
  · exact .inr ⟨w.goes i H hlt q, Pv (i + 1), fun H' p' => ⟨n - (i + 1), by omega, rfl, hlt, p'⟩, fun x H' y => hs i x H H' hlt p (w.yields i H x H' hlt q y)⟩
  · have e : i = n := by omega
    subst e
    exact .inl ⟨w.stops H q, hd H p⟩
section
variable (K : PySem.W.Frag) {X : Cx}
theorem piL {tg l : Expr} {tl : TE} (hl : PE X l tl) (h : X.K = K := by rfl) : PI X tg l (iList K tl) := h ▸ pi_list hl
theorem piT {tg l : Expr} {tl : TE} (hl : PE X l tl) (h : X.K = K := by rfl) : PI X tg l (iTup K tl) := h ▸ pi_tup hl
end

/-! ### data -/
theorem eqvMap {α : Type} [DecidableEq α] {f : α → PyData} (h : ∀ x y, PyData.eqv (f x) (f y) = decide (x = y)) : ∀ xs ys : List α, PyData.eqvAll (xs.map f) (ys.map f) = decide (xs = ys)
  | [], [] => rfl
  | [], _ :: _ => rfl
  | _ :: _, [] => rfl
  | x :: xs, y :: ys => by
    show (PyData.eqv (f x) (f y) && PyData.eqvAll (xs.map f) (ys.map f)) = _
    rw [h, eqvMap h xs ys]
    by_cases e : x = y <;> simp [e]
/-- data that can be laid, of depth at most k -/
def Sh (k : Nat) (d : PyData) : Prop := d.canLay0 = true ∧ PyData.depth d ≤ k
theorem Sh.up {k m : Nat} {d : PyData} (h : Sh k d) (l : k ≤ m) : Sh m d := ⟨h.1, Nat.le_trans h.2 l⟩
theorem Sh.all {k : Nat} : ∀ {ds : List PyData}, (∀ d ∈ ds, Sh k d) → PyData.canLayAll0 ds = true ∧ PyData.depthAll ds ≤ k
  | [], _ => ⟨rfl, Nat.zero_le _⟩
  | d :: ds, h => by
    obtain ⟨a, b⟩ := Sh.all (ds := ds) fun y hy => h y (List.mem_cons_of_mem _ hy)
    obtain ⟨a', b'⟩ := h d List.mem_cons_self
    refine ⟨?_, ?_⟩
    · show (d.canLay0 && PyData.canLayAll0 ds) = true
      rw [a, a']; rfl
    · show max (PyData.depth d) (PyData.depthAll ds) ≤ k
      omega
theorem Sh.list {k : Nat} {ds : List PyData} (h : ∀ d ∈ ds, Sh k d) : Sh (k + 1) (.list ds) := ⟨(Sh.all h).1, Nat.succ_le_succ (Sh.all h).2⟩
theorem Sh.tuple {k : Nat} {ds : List PyData} (h : ∀ d ∈ ds, Sh k d) : Sh (k + 1) (.tuple ds) := ⟨(Sh.all h).1, Nat.succ_le_succ (Sh.all h).2⟩
theorem Sh.listM {α : Type} {k : Nat} {xs : List α} {f : α → PyData} (h : ∀ x ∈ xs, Sh k (f x)) : Sh (k + 1) (.list (xs.map f)) := .list fun d hd => by obtain ⟨x, hx, rfl⟩ := List.mem_map.mp hd; exact h x hx
theorem Sh.tupleM {α : Type} {k : Nat} {xs : List α} {f : α → PyData} (h : ∀ x ∈ xs, Sh k (f x)) : Sh (k + 1) (.tuple (xs.map f)) := .tuple fun d hd => by obtain ⟨x, hx, rfl⟩ := List.mem_map.mp hd; exact h x hx
theorem Sh.str {z : Str} (h : PyData.strOk z = true) : Sh 0 (.str z) := ⟨h, Nat.le_refl _⟩
theorem Sh.int (i : Int) : Sh 0 (.int i) := ⟨rfl, Nat.le_refl _⟩
theorem Sh.sh {k : Nat} {d : PyData} (h : Sh k d) (l : k ≤ 64 := by decide) : SeqAt.shaped d = true := Bool.and_eq_true_iff.mpr ⟨h.1, decide_eq_true (Nat.le_trans h.2 l)⟩
theorem dpMap {K : PySem.W.Frag} {H : Hp} {α : Type} {g : α → V} {f : α → PyData} : ∀ {xs : List α}, (∀ x ∈ xs, Dp K H (g x) (f x)) → DpAll K H (xs.map g) (xs.map f)
  | [], _ => .nil
  | x :: xs, h => .cons (h x List.mem_cons_self) (dpMap fun y hy => h y (List.mem_cons_of_mem _ hy))
theorem dpPair {K : PySem.W.Frag} {H : Hp} {α β : Type} {R : α → β → Prop} {g : α → V} {f : β → PyData} {as : List α} {bs : List β} (p : Paired R as bs) (h : ∀ a b, R a b → Dp K H (g a) (f b)) : DpAll K H (as.map g) (bs.map f) := by
  induction p with
  | nil => exact .nil
  | cons a _ ih => exact .cons (h _ _ a) ih
/-! ### steps and procedures as data -/
abbrev Step := Str × Str
abbrev Pc := Str × List Step
def stD (s : Step) : PyData := .tuple [.str s.1, .str s.2]
def bdL (ss : List Step) : PyData := .list (ss.map stD)
def bdT (ss : List Step) : PyData := .tuple (ss.map stD)
def pcL (x : Pc) : PyData := .tuple [.str x.1, bdL x.2]
theorem eqv_str (x y : Str) : PyData.eqv (.str x) (.str y) = decide (x = y) := by
  show (x == y) = _
  by_cases e : x = y <;> simp [e]
theorem eqv_st (x y : Step) : PyData.eqv (stD x) (stD y) = decide (x = y) := by
  obtain ⟨a, b⟩ := x
  obtain ⟨c, d⟩ := y
  show (PyData.eqv (.str a) (.str c) && (PyData.eqv (.str b) (.str d) && true)) = _
  rw [eqv_str, eqv_str]
  by_cases e : a = c <;> by_cases f : b = d <;> simp [e, f]
theorem eqv_bdL (x y : List Step) : PyData.eqv (bdL x) (bdL y) = decide (x = y) := eqvMap eqv_st x y
theorem eqv_bdT (x y : List Step) : PyData.eqv (bdT x) (bdT y) = decide (x = y) := eqvMap eqv_st x y
theorem eqv_pcL (x y : Pc) : PyData.eqv (pcL x) (pcL y) = decide (x = y) := by
  obtain ⟨a, b⟩ := x
  obtain ⟨c, d⟩ := y
  show (PyData.eqv (.str a) (.str c) && (PyData.eqv (bdL b) (bdL d) && true)) = _
  rw [eqv_str, eqv_bdL]
  by_cases e : a = c <;> by_cases f : b = d <;> simp [e, f]
def StOk (s : Step) : Prop := PyData.strOk s.1 = true ∧ PyData.strOk s.2 = true
theorem sh_st {s : Step} (h : StOk s) : Sh 1 (stD s) := .tuple fun d hd => by
  simp only [List.mem_cons, List.not_mem_nil, or_false] at hd
  rcases hd with rfl | rfl
  · exact .str h.1
  · exact .str h.2
theorem sh_bdL {ss : List Step} (h : ∀ s ∈ ss, StOk s) : Sh 2 (bdL ss) := .listM fun s hs => sh_st (h s hs)
theorem sh_bdT {ss : List Step} (h : ∀ s ∈ ss, StOk s) : Sh 2 (bdT ss) := .tupleM fun s hs => sh_st (h s hs)
theorem sh_pcL {x : Pc} (h : PyData.strOk x.1 = true) (h2 : ∀ s ∈ x.2, StOk s) : Sh 3 (pcL x) := .tuple fun d hd => by
  simp only [List.mem_cons, List.not_mem_nil, or_false] at hd
  rcases hd with rfl | rfl
  · exact (Sh.str h).up (by decide)
  · exact sh_bdL h2

/-! ### all but lists stays -/
def NoL (o : HO) : Prop := ∀ xs, o ≠ .lst xs
def SameN (H H' : Hp) : Prop := ∀ b o, NoL o → H b = some o → H' b = some o
theorem SameN.refl {H : Hp} : SameN H H := fun _ _ _ h => h
theorem SameN.of {H H' : Hp} (x : Same H H') : SameN H H' := fun b o _ h => x b o h
theorem SameN.trans {H H1 H2 : Hp} (x : SameN H H1) (y : SameN H1 H2) : SameN H H2 := fun b o n h => y b o n (x b o n h)
theorem SameN.put {H H1 : Hp} {p : Addr} {xs : List V} {o : HO} (x : SameN H H1) (h : H1 p = some (.lst xs)) : SameN H (upd H1 p o) := fun b u n e => by
  have q := x b u n e
  rw [upd_ne (fun z => by rw [z, h] at q; exact n xs (Option.some.inj q).symm)]
  exact q
theorem noL_tup {xs : List V} : NoL (.tup xs) := fun _ h => nomatch h
theorem noL_dK {k : List (Key × V)} : NoL (.dK k) := fun _ h => nomatch h
theorem noL_ins {C d : Addr} {f : List (Str × V)} : NoL (.ins C d f) := fun _ h => nomatch h
theorem SameN.tup {K : PySem.W.Frag} {t : Addr} {H H' : Hp} {xs : List V} (x : SameN H H') (h : SqT K H t xs) : SqT K H' t xs := by
  rcases h with (h | ⟨o, h⟩) | h
  · exact .inl (.inl (x _ _ noL_tup h))
  · exact .inl (.inr ⟨o, x _ _ (fun _ h => nomatch h) h⟩)
  · exact .inr h
/-- all but a, and but lists, stays -/
theorem refs_ne {H : Hp} {a x : Addr} {n : Nat} {ts : List Addr} (S : Src H a n) (h : H x = some (.lst (ts.map V.ref))) : x ≠ a := fun e => by
  obtain ⟨g, s, c, q, _⟩ := S
  rw [e, q] at h
  cases ts with
  | nil => simp at h
  | cons t ts => simp at h
theorem strs_ne {H : Hp} {a x : Addr} {n : Nat} {zs : List Str} (S : Src H a n) (h : H x = some (.lst (zs.map V.str))) : x ≠ a := fun e => by
  obtain ⟨g, s, c, q, _⟩ := S
  rw [e, q] at h
  cases zs with
  | nil => simp at h
  | cons t ts => simp at h
theorem noL_ne {H : Hp} {a x : Addr} {n : Nat} {o : HO} (S : Src H a n) (k : NoL o) (h : H x = some o) : x ≠ a := fun e => by
  obtain ⟨g, s, c, q, _⟩ := S
  rw [e, q] at h
  exact k _ (Option.some.inj h).symm
theorem Kp.noL {H H' : Hp} {a : Addr} {n : Nat} (x : Kp a H H') (S : Src H a n) : SameN H H' := fun b o k h => x b o (noL_ne S k h) h
end Mf
namespace Mf
open PySem L2
section
variable {P : Program} {w : World} {K : PySem.W.Frag} {mg : Str → Option Value} {base : Heap} {C : Addr}
/-! ### _places -/
abbrev CalN (P : Program) (w : World) (K : PySem.W.Frag) (mg : Str → Option Value) (base : Heap) (C : Addr) (dvs : List V) : Prop := CalC P w K mg base CX0 1 "NameSet" C ["self", "names"] (spNsInit K C) dvs
/-- the places that steps read, in order, as often as they are read -/
def readsIn (ss : List Step) : List Str := (ss.filter fun s => decide (s.1 = ("read" : Str))).map (·.2)
def readsOf (rs : List Pr) : List Str := (rs.map fun r => readsIn r.ss).flatten
theorem readsOf_snoc {rs : List Pr} {r : Pr} : readsOf (rs ++ [r]) = readsOf rs ++ readsIn r.ss := by unfold readsOf; simp
theorem readsIn_snoc {ss : List Step} {s : Step} : readsIn (ss ++ [s]) = readsIn ss ++ (if s.1 = ("read" : Str) then [s.2] else []) := by
  unfold readsIn
  by_cases e : s.1 = ("read" : Str) <;> simp [List.filter_append, e]
theorem readsIn_len (ss : List Step) : (readsIn ss).length ≤ ss.length := by
  unfold readsIn
  rw [List.length_map]
  exact List.length_filter_le _ _
theorem readsOf_len {rs : List Pr} (h : ∀ r ∈ rs, r.ss.length ≤ 12) : (readsOf rs).length ≤ rs.length * 12 := by
  induction rs with
  | nil => exact Nat.zero_le _
  | cons r rs ih =>
    have a := ih fun x hx => h x (List.mem_cons_of_mem _ hx)
    have b := h r List.mem_cons_self
    have c := readsIn_len r.ss
    show (readsIn r.ss ++ readsOf rs).length ≤ _
    rw [List.length_append, List.length_cons]
    omega
theorem bodyB_len {ss : List Step} (h : bodyB ss = true) : ss.length ≤ 12 := of_decide_eq_true (Bool.and_eq_true_iff.mp h).1
theorem bodyB_st {ss : List Step} (h : bodyB ss = true) : ∀ s ∈ ss, stepB s.1 s.2 = true := List.all_eq_true.mp (Bool.and_eq_true_iff.mp h).2
theorem stepB_name {s : Step} (h : stepB s.1 s.2 = true) : IsName s.2 := (nameB_iff _).mp (Bool.and_eq_true_iff.mp h).2
theorem stepB_kind {s : Step} (h : stepB s.1 s.2 = true) : s.1 ∈ kinds := of_decide_eq_true (Bool.and_eq_true_iff.mp h).1
theorem kinds_ok : ∀ z ∈ kinds, PyData.strOk z = true := by decide +kernel
theorem stepB_ok {s : Step} (h : stepB s.1 s.2 = true) : StOk s := ⟨kinds_ok _ (stepB_kind h), (stepB_name h).ok⟩
theorem readsOf_ok {rs : List Pr} (h : ∀ r ∈ rs, Right r) : ∀ z ∈ readsOf rs, IsName z := fun z hz => by
  obtain ⟨l, hl, hz⟩ := List.mem_flatten.mp hz
  obtain ⟨r, hr, rfl⟩ := List.mem_map.mp hl
  obtain ⟨s, hs, rfl⟩ := List.mem_map.mp hz
  exact stepB_name (bodyB_st (h r hr).2.1 s (List.mem_filter.mp hs).1)
def spPlaces (K : PySem.W.Frag) : Sp := fun vs H Q _ => ∃ (d : Addr) (us : List Addr) (rs : List Pr), vs = [.ref d] ∧ H d = some (.dK (kvsOf rs us)) ∧ BoA K H us rs ∧ (∀ r ∈ rs, StA H r.ts r.ss) ∧ rs.length ≤ 16 ∧ (∀ r ∈ rs, Right r) ∧
  ∀ t pl H', Up pl → (∀ z, z ∈ pl ↔ z ∈ readsOf rs) → H' t = some (.tup (pl.map V.str)) → Same H H' → Q (.ref t) H'
abbrev sPlaces : Stmt := top 23
theorem scPlaces : FnScope ["bodies", "body", "kind", "name"] ["bodies"] (defScope sPlaces) := ⟨rfl, rfl, rfl, by decide +kernel, rfl, by decide +kernel, by decide +kernel⟩
theorem ok_places {f : Addr} {fd : FuncData} (F : Fun K "_places" "_places" sPlaces f fd) (T : NsC K mg C) (mk1 : CalN P w K mg base C []) : FnOk P w K mg base CX0 3 f fd ["bodies"] (spPlaces K) := by
  refine F.ok scPlaces (fun vs H Q E h => ?_) (fun cdv A outer s H vs Q E hr h => ?_)
  · obtain ⟨d, us, rs, rfl, _⟩ := h
    rfl
  · obtain ⟨d, us, rs, rfl, hd, bo, st, few, ri, k⟩ := h
    refine ⟨_, (pss_one (ps_ret (fldK K (pe_mkc mk1 hr pass0 (pa_cons (pe_lock (pe_lc2 (own := [("body", 1), ("kind", 2), ("name", 3)]) (vs1 := [2, 3]) (g := (gName 1)) (g1 := (gTup K 2 (gCons (gName 2) (gCons (gName 3) gNil)))) (tt := tYes) (tt1 := _) rfl scPlaces.nd (pi_values (pv 0)) (blkOk_by (own := [("body", 1), ("kind", 2), ("name", 3)]) (N := ["bodies", "body", "kind", "name"]) (sc := defScope sPlaces) (by decide +kernel)) (by decide) (fun _ _ _ _ _ => (pg_name (i := 1) scPlaces.nd rfl (by first | exact Or.inl rfl | exact Or.inr rfl))) (fun _ _ _ _ _ => pts_nil) (fun _ _ _ _ _ => (piT K (pv 1))) (fun _ _ _ _ _ => (pg_tup rfl (pgs_cons (pg_name (i := 2) scPlaces.nd rfl (by first | exact Or.inl rfl | exact Or.inr rfl)) (pgs_cons (pg_name (i := 3) scPlaces.nd rfl (by first | exact Or.inl rfl | exact Or.inr rfl)) pgs_nil)))) (fun _ _ _ _ _ => pts_one (pt_cmpR op_eq (pv 2) pe_str (nomark _))) (fun _ _ _ _ _ => (pv 3)))) pa_nil))))), ?_⟩
    refine ⟨d, _, hd, trivial, fun od => ?_⟩
    have lt : us.length = rs.length := Paired.length bo
    have bf : BoA K (upd H d (.frz od (.dK (kvsOf rs us)))) us rs := bo.put hd
    have l12 : ∀ r ∈ rs, r.ss.length ≤ 12 := fun r hr => bodyB_len (ri r hr).2.1
    have fewR : ∀ l : List Pr, (∀ r ∈ l, r ∈ rs) → l.length ≤ 16 → (readsOf l).length ≤ 192 := fun l h h2 => by
      have := readsOf_len (rs := l) fun r hr => l12 r (h r hr)
      omega
    refine ⟨_, rfl, d, od, _, rfl, upd_same, fun D hD => ?_⟩
    refine it_any walk_values (fun i H' => Same (upd H d (.frz od (.dK (kvsOf rs us)))) H' ∧ H' D = some (.lst ((readsOf (rs.take i)).map V.str))) ⟨Same.new hD, upd_same⟩ (fun i H' _ q => q.1 _ _ upd_same) ?_ ?_
    · rintro i x H1 _ hi ⟨s1, h1⟩ ⟨rfl, ky, hx⟩
      obtain ⟨r, u, hr1, hu1, rfl, rfl⟩ := kvsOf_get hx
      obtain ⟨r', hr2, sq⟩ := paired_get bf hu1
      rw [hr1] at hr2
      cases hr2
      have rm : r ∈ rs := List.mem_of_getElem? hr1
      have ir : i < rs.length := by rw [kvsOf_len lt] at hi; exact hi
      have tk : rs.take (i + 1) = rs.take i ++ [r] := by rw [List.take_add_one, hr1]; rfl
      refine ⟨rfl, yes_then ?_⟩
      refine ⟨_, rfl, u, rfl, ⟨_, s1.tup sq⟩, ?_⟩
      have ln : r.ts.length = r.ss.length := Paired.length (st r rm)
      refine it_any walk_tup (fun j H' => Same (upd H d (.frz od (.dK (kvsOf rs us)))) H' ∧ H' D = some (.lst ((readsOf (rs.take i) ++ readsIn (r.ss.take j)).map V.str))) ⟨s1, by rw [h1]; simp [readsIn]⟩ (fun j H' _ q => q.1.tup sq) ?_ ?_
      · rintro j x H3 _ hj ⟨s3, h3⟩ ⟨rfl, hx⟩
        rw [List.getElem?_map] at hx
        obtain ⟨t, ht, rfl⟩ := Option.map_eq_some_iff.mp hx
        obtain ⟨sp, hsp, hts⟩ := (st r rm).get ht
        have hts : (upd H d (.frz od (.dK (kvsOf rs us)))) t = some (.tup [.str sp.1, .str sp.2]) := by
          rw [upd_ne (fun e => by rw [e, hd] at hts; simp at hts)]; exact hts
        have tk1 : r.ss.take (j + 1) = r.ss.take j ++ [sp] := by rw [List.take_add_one, hsp]; rfl
        refine ⟨t, _, rfl, .of (s3 _ _ hts), rfl, _, _, rfl, _, _, rfl, rfl, rfl, _, rfl, rfl, _, rfl, ite2 (fun q => ?_) fun q => ?_⟩
        · have q : sp.1 = ("read" : Str) := by have := of_decide_eq_true q; exact V.str.inj this
          refine ⟨_, rfl, _, h3, ?_, s3.mut hD, ?_⟩
          · rw [List.length_map, List.length_append]
            have a := fewR (rs.take i) (fun r hr => List.mem_of_mem_take hr) (by rw [List.length_take]; omega)
            have b := readsIn_len (r.ss.take j)
            rw [List.length_take] at b
            have c := l12 r rm
            exact Nat.lt_of_le_of_lt (by omega : _ ≤ 204) (by decide)
          · rw [upd_same, tk1, readsIn_snoc, if_pos q, ← List.append_assoc, List.map_append (l₂ := [sp.2])]
            rfl
        · have q : ¬ sp.1 = ("read" : Str) := fun e => q (decide_eq_true (by rw [e]))
          refine ⟨s3, ?_⟩
          rw [tk1, readsIn_snoc, if_neg q, List.append_nil]
          exact h3
      · rintro H3 ⟨s3, h3⟩
        refine ⟨s3, ?_⟩
        rw [List.length_map, ln, List.take_of_length_le (Nat.le_refl _)] at h3
        rw [tk, readsOf_snoc]
        exact h3
    · rintro H1 ⟨s1, h1⟩
      rw [kvsOf_len lt, List.take_of_length_le (Nat.le_refl _)] at h1
      refine ⟨s1 _ _ upd_same, ?_⟩
      have s2 : Same H (upd H1 d (.dK (kvsOf rs us))) := fun b o hb => by
        by_cases e : b = d
        · subst e
          rw [hd] at hb
          cases hb
          exact upd_same
        · rw [upd_ne e]
          refine s1 _ _ ?_
          rw [upd_ne e]; exact hb
      have dD : D ≠ d := fun e => by
        rw [e, s1 _ _ upd_same] at h1
        cases h1
      have h2 : (upd H1 d (.dK (kvsOf rs us))) D = some (.lst ((readsOf rs).map V.str)) := by rw [upd_ne dD]; exact h1
      generalize upd H1 d (.dK (kvsOf rs us)) = H2 at s2 h2
      intro L dxL nL hdL _
      have fewL : (readsOf rs).length < 4000 := by have := fewR rs (fun _ h => h) few; omega
      have okL : ∀ z ∈ readsOf rs, PyData.strOk z = true := fun z hz => (readsOf_ok ri z hz).ok
      refine ⟨L, dxL, _, _, rfl, upd_same, ArgS.same (.lst h2) (ns_grow nL hdL), fewL, fun tL ms H9 upL mL g1L g2L kpL => ⟨rfl, ?_⟩⟩
      obtain ⟨hL, e2⟩ := ns_after fewL okL nL hdL upL mL g1L g2L kpL
      exact ⟨L, C, dxL, _, _, rfl, g1L, T.ins.cl, T.nM, flM_get tL, k tL ms H9 upL mL g2L (s2.trans e2)⟩
end
end Mf
/-! tuple(d) of a dict; == of dicts whose values are data. -/
namespace Mf
open PySem PySem.Spec PyProof.Rows L2

section
variable {prog : Program} {w : World} {A : Around} {E : Value → Shared → Prop} {s : Shared} {T : String} {r d : Addr} {n : Nat} {P : Nat → Value → Prop} {OK : Heap → Prop}
theorem collect_src {Q : List Value → Shared → Prop} (K : PySem.W.KdlSrc prog w T r d n P OK) (hh : A.handled = none) (hok : OK s.heap) (hn : n ≤ sizeLine)
    (hQ : ∀ (h' : Heap) (tk : Nat) (acc : Array Value), (∀ b o, s.heap.get? b = some o → h'.get? b = some o) → ItemsOf P acc n → Q acc.toList { s with heap := h', toks := tk }) :
    wpAny (model prog w) A (collect (.ref r)) Q E s := by
  unfold collect
  refine wpAny_bind (wpAny_runValue (codeAny_builtin F.entry_proto_collect ?_))
  rw [Around.under_plainId F.plain_proto_collect _]
  show wpAny _ A.in1 (newList [] >>= fun l => again (.builtin "list.__iadd__" ⟨[l, .ref r], []⟩)) _ _ s
  refine wpAny_bind (wpAny_newObj_type ?_)
  refine wpAny_pure ⟨plainId_quiet F.plain_list_iadd _, codeAny_builtin F.entry_list_iadd ?_⟩
  rw [Around.under_plainId F.plain_list_iadd _]
  show wpAny _ A.in1 (Builtin.List.listExtendWith (.ref s.heap.objs.size) (.ref r) (.ref s.heap.objs.size)) _ _ _
  have hS : (s.heap.push { cls := .type "list", data := .seq ([] : List Value).toArray }).get? s.heap.objs.size = some { cls := .type "list", data := .seq #[] 0 } := Heap.get?_push_size _ rfl
  have hlt := K.there _ hok
  refine wpAny_mono (PySem.W.kdl_extend (A := A) (R := fun rr s' => rr = .ok (.ret (.ref s.heap.objs.size)) ∧ ∃ (h' : Heap) (tk : Nat) (acc : Array Value) (c' : Nat), s' = { s with heap := h', toks := tk } ∧
      (∀ b o, s.heap.get? b = some o → h'.get? b = some o) ∧ h'.get? s.heap.objs.size = some { cls := .type "list", dict := none, data := .seq acc c', slots := #[] } ∧ ItemsOf P acc n)
    (s := { s with heap := s.heap.push { cls := .type "list", data := .seq ([] : List Value).toArray } }) K hh (K.keep _ _ hok fun b _ o e => Heap.get?_push_of_some _ e) _ (Nat.ne_of_gt hlt.1) (Nat.ne_of_gt hlt.2) _ 0 hS
    (fun h' tk acc c' hk e hi => ⟨rfl, h', tk, acc, c', rfl, fun b o q => hk b o (Nat.ne_of_lt (Heap.lt_size q)) (Heap.get?_push_of_some _ q), e, hi⟩) hn) (fun fin s' h => ?_) (fun e s' h => ?_)
  · cases fin with
    | done f =>
      obtain ⟨e, h', tk, acc, c', rfl, hk, hS', hi⟩ := h
      cases e
      show wpAny _ A (load s.heap.objs.size >>= _) _ _ _
      exact wpAny_bind (wpAny_load hS' (wpAny_pure (hQ h' tk acc hk hi)))
    | again c' =>
      refine ⟨h.1, codeAny_mono h.2 fun rr s'' hr' => ?_⟩
      obtain ⟨rfl, h', tk, acc, c', rfl, hk, hS', hi⟩ := hr'
      show wpAny _ A (load s.heap.objs.size >>= _) _ _ _
      exact wpAny_bind (wpAny_load hS' (wpAny_pure (hQ h' tk acc hk hi)))
  · exact absurd h.1 (by simp)

theorem code_tuple_new_dict {Q₁ : Value → Shared → Prop} (K : PySem.W.KdlSrc prog w "dict" r d n P OK) (hh : A.handled = none) (hok : OK s.heap) (hn : n ≤ sizeLine)
    (h : ∀ (h' : Heap) (tk : Nat) (acc : Array Value), (∀ b o, s.heap.get? b = some o → h'.get? b = some o) → ItemsOf P acc n →
      Q₁ (.ref h'.objs.size) { s with heap := h'.push { cls := .type "tuple", data := .seq acc }, toks := tk }) :
    codeAny (model prog w) A (.call (.builtin "tuple.__new__") ⟨[.type "tuple", .ref r], []⟩) (wants Q₁ E) s := by
  refine codeAny_of_tree ?_
  show wpAny _ A.in1 (do checkBuiltinCall "tuple.__new__" ⟨[.type "tuple", .ref r], []⟩; again (.builtin "tuple.__new__" ⟨[.type "tuple", .ref r], []⟩)) _ _ s
  refine wpAny_bind (wpAny_of_eq (F.newCall_tuple_1 _) (wpAny_pure ⟨plainId_quiet F.plain_tuple_new _, codeAny_builtin F.entry_tuple_new ?_⟩))
  rw [Around.under_plainId F.plain_tuple_new _]
  have hsub := sub_tuple_self
  have hinit := init_tuple_lookup
  have hmh := madeHere_tuple
  have hTI : s.TypeIs (.ref r) "dict" := K.type s hok
  have hh1 : A.in1.handled = none := hh
  wp_walk using wpAny_typeOf hTI, collect_src (A := A.in1) K hh1 hok hn
  intro h' tk acc hk hacc
  show wpAny _ _ (Builtin.Tuple.tupleExact acc.toList.toArray >>= fun v => ret v) _ _ _
  unfold Builtin.Tuple.tupleExact
  refine wpAny_bind (wpAny_newObj_type ?_ (by show acc.toList.toArray.size ≤ sizeLine; simp only [Array.toArray_toList]; rw [hacc.1]; exact hn))
  refine wpAny_pure ?_
  have e : acc.toList.toArray = acc := by simp
  rw [e]
  exact h h' tk acc hk hacc

theorem call_tuple_src {Q : Value → Shared → Prop} (K : PySem.W.KdlSrc prog w "dict" r d n P OK) (hh : A.handled = none) (hok : OK s.heap) (hn : n ≤ sizeLine)
    (hQ : ∀ (h' : Heap) (tk : Nat) (acc : Array Value), (∀ b o, s.heap.get? b = some o → h'.get? b = some o) → ItemsOf P acc n →
      Q (.ref h'.objs.size) { s with heap := h'.push { cls := .type "tuple", data := .seq acc }, toks := tk }) :
    wpAny (model prog w) A (call (.type "tuple") [.ref r]) Q E s := by
  refine callType_codes (Q₁ := fun obj s₁ => s₁.TypeIs obj "tuple" ∧ Q obj s₁) F.called_tuple (F.typeCall_tuple_1 _) F.entry_object_init
    (code_tuple_new_dict (A := A.in1) K hh hok hn fun h' tk acc hk hacc => ⟨⟨_, Heap.get?_push_size _ rfl, rfl⟩, hQ h' tk acc hk hacc⟩) fun obj s₁ h₁ => ?_
  exact ⟨h₁.1, F.args_object_init_2 obj _, object_init_meets F.called_tuple.init.lookup F.called_tuple.made (by decide) prog w A.in1 _ s₁ ⟨h₁.1, rfl, h₁.2⟩⟩
end

theorem keyIs_relM {k : Key} {v : Value} (h : keyIs k v = true) : RelV (kV k) v := by
  rcases keyIs_shape h with ⟨i, t, e1, e2⟩ | ⟨x, t, e1, e2⟩
  · subst e1; exact ⟨t, e2⟩
  · subst e1; exact ⟨t, e2⟩
theorem vals_of_atM : ∀ {xs : List V} {us : List Value}, xs.length = us.length → (∀ (j : Nat) (x : V) (u : Value), xs[j]? = some x → us[j]? = some u → RelV x u) → Vals xs us
  | [], [], _, _ => .nil
  | [], _ :: _, h, _ => by simp at h
  | _ :: _, [], h, _ => by simp at h
  | x :: xs, u :: us, h, f => .cons (f 0 x u rfl rfl) (vals_of_atM (by simpa using h) fun j y w h1 h2 => f (j + 1) y w (by simpa using h1) (by simpa using h2))

/-- tuple(d): a new tuple of the keys -/
def rTupD : List V → Hp → VK → Prop := fun xs H Q => ∃ p kvs, xs = [.ref p] ∧ H p = some (.dK kvs) ∧ ∀ q, H q = none → Q (.ref q) (upd H q (.tup (kvs.map fun kv => kV kv.1)))
theorem call_tuple_dK {X : Cx} (hc : X.calm = true) : CallR X (.type "tuple") rTupD := by
  intro pins s σ H xs us Q I r h
  obtain ⟨p, kvs, e, hk, q⟩ := h
  subst e
  obtain ⟨u, eu, rx⟩ := vals1 r
  subst eu
  obtain rfl : u = Value.ref p := rx
  obtain ⟨z, lo, vs, rk, hd⟩ := (show ObjOk X.prog X.w H s.heap p (.dK kvs) from I.hok p _ hk)
  obtain ⟨ep, hat⟩ := hd.dictAt
  have hl : kvs.length = vs.length := Paired.length rk
  refine call_tuple_src (PySem.W.kdl_dict (knd := mixKind X.prog X.w) (kvs := vs) (ep := ep) lo) (I.ok.hd hc) hat (by rw [← hl]; exact z) fun h' tk acc hkeep hacc => ?_
  have I1 : Inv X pins σ H { s with heap := h', toks := tk } := I.kept (t' := tk) hkeep
  refine ⟨.ref h'.objs.size, upd H h'.objs.size (.tup (kvs.map fun kv => kV kv.1)), I1.laid (t' := tk) (fun b o e => Heap.get?_push_of_some _ e) (Nat.le_refl _) (show ObjOk X.prog X.w _ _ _ (.tup (kvs.map fun kv => kV kv.1)) from ⟨?_, acc.toList, ?_, ?_⟩), rfl, q _ (I1.hok.fresh (Nat.le_refl _))⟩
  · rw [List.length_map]; exact z
  · have el : acc.toList.length = acc.size := by simp
    refine vals_of_atM (by rw [List.length_map, el, hacc.1, hl]) fun j x w h1 h2 => ?_
    obtain ⟨k, y, hky, hi⟩ := hacc.2 j w (by rw [← Array.getElem?_toList]; exact h2)
    have e1 : (kvs.map (·.1))[j]? = some k := by
      rw [KV.keys rk, List.getElem?_map, hky] <;> rfl
    have e2 : (kvs.map fun kv => kV kv.1)[j]? = some (kV k) := by
      have e3 : (kvs.map fun kv => kV kv.1) = (kvs.map (·.1)).map kV := by rw [List.map_map] <;> rfl
      rw [e3, List.getElem?_map, e1] <;> rfl
    rw [e2] at h1
    cases h1
    exact keyIs_relM hi
  · rw [Array.toArray_toList]; exact IsTup.new _ _

/-! ### == of dicts whose values are data -/
def DpKV (K : PySem.W.Frag) (H : Hp) (ks : List (Key × V)) (ds : List (Key × PyData)) : Prop := Paired (fun p q => p.1 = q.1 ∧ Dp K H p.2 q.2 ∧ SeqAt.shaped q.2 = true) ks ds
def valD (es : List (Key × PyData)) (k : Key) : Option PyData := (es.find? fun p => decide (p.1 = k)).map (·.2)
def eqvKV (es : List (Key × PyData)) : List (Key × PyData) → Bool
  | [] => true
  | p :: r => (match valD es p.1 with | some e => PyData.eqv p.2 e | none => false) && eqvKV es r
section
variable {X : Cx} {pins : List (Addr × Obj)} {σ : L2.St} {H : Hp} {s : Shared}
theorem DpKV.val {K : PySem.W.Frag} {ls : List (Key × V)} {es : List (Key × PyData)} (h : DpKV K H ls es) (k : Key) : (valV ls k = none ∧ valD es k = none) ∨ ∃ v e, valV ls k = some v ∧ valD es k = some e ∧ Dp K H v e ∧ SeqAt.shaped e = true := by
  unfold valV valD
  induction h with
  | nil => exact .inl ⟨rfl, rfl⟩
  | @cons p q ps qs h t ih =>
    obtain ⟨h1, h2, h3⟩ := h
    by_cases e : p.1 = k
    · rw [List.find?_cons_of_pos (by simpa using e), List.find?_cons_of_pos (by rw [← h1]; simpa using e)]
      exact .inr ⟨_, _, rfl, rfl, h2, h3⟩
    · rw [List.find?_cons_of_neg (by simpa using e), List.find?_cons_of_neg (by rw [← h1]; simpa using e)]
      exact ih
theorem hits_data (I : Inv X pins σ H s) (hu : X.A.in1.units + 64 < cLine) {ls : List (Key × V)} {vb : List (Key × Value)} (rb : KV ls vb) {es : List (Key × PyData)} (hb : DpKV X.K H ls es) :
    ∀ {ks : List (Key × V)} {va : List (Key × Value)} {ds : List (Key × PyData)}, KV ks va → DpKV X.K H ks ds → PySem.W.KeqHits X.A.in1 s vb va (eqvKV es ds) := by
  intro ks va ds ra ha
  unfold KV at ra
  induction ra generalizing ds with
  | nil =>
    cases ha
    exact .nil
  | @cons p q ps qs h t ih =>
    cases ha with
    | @cons _ d _ dr hd tl =>
      obtain ⟨h1, h2⟩ := h
      obtain ⟨g1, g2, g3⟩ := hd
      obtain ⟨key, v⟩ := q
      have h1' : p.1 = key := h1
      have ek : d.1 = key := by rw [← g1]; exact h1
      unfold eqvKV
      rw [ek]
      have rr := rb.val key
      rcases hb.val key with ⟨n1, n2⟩ | ⟨y, e, n1, n2, n3, n4⟩
      · rw [n2]
        rw [n1] at rr
        have nn : valueAt vb key = none := by
          cases hv : valueAt vb key with
          | none => rfl
          | some z => rw [hv] at rr; exact rr.elim
        exact .miss nn
      · rw [n2]
        rw [n1] at rr
        obtain ⟨z, hz, rz⟩ := rr.some_of
        obtain ⟨as, r1⟩ := Dp.reads I d.2 p.2 v g2 h2
        obtain ⟨bs, r2⟩ := Dp.reads I e y z n3 rz
        exact .hit hz (PySem.W.keq_at r1 r2 g3 n4 hu) (ih tl)
def rEqDD (K : PySem.W.Frag) : R2 := fun x y H Q => ∃ a b ks ls ds es, x = .ref a ∧ y = .ref b ∧ H a = some (.dK ks) ∧ H b = some (.dK ls) ∧ DpKV K H ks ds ∧ DpKV K H ls es ∧ Q (.bl (decide (ds.length = es.length) && eqvKV es ds)) H
theorem op_eqDD (hu : X.A.units + 65 < cLine) : OpR X (compareOp .Eq) (rEqDD X.K) := by
  intro pins s σ H x y v u Q I rx ry h
  obtain ⟨a, b, ks, ls, ds, es, rfl, rfl, ea, eb, ha, hb, q⟩ := h
  obtain rfl : v = Value.ref a := rx
  obtain rfl : u = Value.ref b := ry
  obtain ⟨_, ya, va, ra, da⟩ := (show ObjOk X.prog X.w H s.heap a (.dK ks) from I.hok a _ ea)
  obtain ⟨_, yb, vb, rb, db⟩ := (show ObjOk X.prog X.w H s.heap b (.dK ls) from I.hok b _ eb)
  have e1 : va.length = ds.length := by rw [← ra.length]; exact Paired.length ha
  have e2 : vb.length = es.length := by rw [← rb.length]; exact Paired.length hb
  refine PySem.W.keq_eq (knd := mixKind X.prog X.w) (r := eqvKV es ds) ya yb da db (by omega) (fun _ => hits_data I (by show X.A.units + 1 + 64 < cLine; omega) rb hb ra ha) ?_
  refine ⟨.bl _, H, I, rfl, ?_⟩
  rw [show (va.length == vb.length) = decide (ds.length = es.length) from by rw [e1, e2]; rfl]
  exact q
end
end Mf
/-! a tuple made of a dict, kept whole: its methods can be called -/
namespace Mf
open PySem PySem.Spec PyProof.Rows L2
/-- a tuple without a dict of its own stands at n -/
def NmT (H : Hp) (n : Addr) (xs : List V) : Prop := ∃ o : Obj, o.cls = .type "tuple" ∧ o.dict = none ∧ H n = some (.frz o (.tup xs))
theorem NmT.sq {K : PySem.W.Frag} {H : Hp} {n : Addr} {xs : List V} (h : NmT H n xs) : SqT K H n xs := let ⟨o, _, _, e⟩ := h; .inl (.inr ⟨o, e⟩)
theorem NmT.mv {H H' : Hp} {n : Addr} {xs : List V} (h : NmT H n xs) (k : ∀ o, H n = some (.frz o (.tup xs)) → H' n = some (.frz o (.tup xs))) : NmT H' n xs := let ⟨o, a, b, e⟩ := h; ⟨o, a, b, k o e⟩
theorem NmT.same {H H' : Hp} {n : Addr} {xs : List V} (h : NmT H n xs) (s : Same H H') : NmT H' n xs := h.mv fun _ e => s _ _ e
def rTupDF : List V → Hp → VK → Prop := fun xs H Q => ∃ p kvs, xs = [.ref p] ∧ H p = some (.dK kvs) ∧ ∀ q o, H q = none → o.cls = .type "tuple" → o.dict = none → Q (.ref q) (upd H q (.frz o (.tup (kvs.map fun kv => kV kv.1))))
theorem call_tuple_dKF {X : Cx} (hc : X.calm = true) : CallR X (.type "tuple") rTupDF := by
  intro pins s σ H xs us Q I r h
  obtain ⟨p, kvs, e, hk, q⟩ := h
  subst e
  obtain ⟨u, eu, rx⟩ := vals1 r
  subst eu
  obtain rfl : u = Value.ref p := rx
  obtain ⟨z, lo, vs, rk, hd⟩ := (show ObjOk X.prog X.w H s.heap p (.dK kvs) from I.hok p _ hk)
  obtain ⟨ep, hat⟩ := hd.dictAt
  have hl : kvs.length = vs.length := Paired.length rk
  refine call_tuple_src (PySem.W.kdl_dict (knd := mixKind X.prog X.w) (kvs := vs) (ep := ep) lo) (I.ok.hd hc) hat (by rw [← hl]; exact z) fun h' tk acc hkeep hacc => ?_
  have I1 : Inv X pins σ H { s with heap := h', toks := tk } := I.kept (t' := tk) hkeep
  refine ⟨.ref h'.objs.size, upd H h'.objs.size (.frz { cls := .type "tuple", data := .seq acc } (.tup (kvs.map fun kv => kV kv.1))), I1.laid (t' := tk) (fun b o e => Heap.get?_push_of_some _ e) (Nat.le_refl _) (show ObjOk X.prog X.w _ _ _ (.frz _ (.tup (kvs.map fun kv => kV kv.1))) from ⟨Heap.get?_push_size _ rfl, ?_, acc.toList, ?_, ?_⟩), rfl, q _ _ (I1.hok.fresh (Nat.le_refl _)) rfl rfl⟩
  · rw [List.length_map]; exact z
  · have el : acc.toList.length = acc.size := by simp
    refine vals_of_atM (by rw [List.length_map, el, hacc.1, hl]) fun j x w h1 h2 => ?_
    obtain ⟨k, y, hky, hi⟩ := hacc.2 j w (by rw [← Array.getElem?_toList]; exact h2)
    have e1 : (kvs.map (·.1))[j]? = some k := by
      rw [KV.keys rk, List.getElem?_map, hky] <;> rfl
    have e2 : (kvs.map fun kv => kV kv.1)[j]? = some (kV k) := by
      have e3 : (kvs.map fun kv => kV kv.1) = (kvs.map (·.1)).map kV := by rw [List.map_map] <;> rfl
      rw [e3, List.getElem?_map, e1] <;> rfl
    rw [e2] at h1
    cases h1
    exact keyIs_relM hi
  · rw [Array.toArray_toList]; exact IsTup.new _ _
/-- a method of such a tuple -/
def tBMT (r : V → List V → Hp → VK → Prop) (to : TE) (t : TA) : TE := fun σ H Q => to σ H fun x H1 => (∃ n xs, x = .ref n ∧ NmT H1 n xs) ∧ t σ H1 fun xs H2 => r x xs H2 Q
theorem pe_bmT {X : Cx} {o e : Expr} {es : List Expr} {to : TE} {t : TA} {name : Str} {apos cpos : Pos} {id : String} {r : V → List V → Hp → VK → Prop}
    (pa : PlainAttrs "tuple") (slot : Slot "tuple" name id) (hty : typeOf (.builtin id) = pure (.type "method_descriptor")) (hm : MtR X id r) (ho : PE X o to) (ha : PA X (e :: es) t)
    (hbase : attributeBase o name X.env (eval o X.env) = eval o X.env := by rfl)
    (hfew : ((backTo cpos (starEach (e :: es) X.env)).all (fun x => !x.1) && (backToKw cpos (keywordEach [] X.env)).all (fun x => x.1.isSome)
      && decide ((e :: es).length + ([] : List Keyword).length + (if ([] : List Keyword).isEmpty then 0 else 1) < 30)) = true := by rfl)
    (hline : (apos.endLine == cpos.line) = true := by rfl) (hs : starEach (e :: es) X.env = (false, eval e X.env) :: starEach es X.env := by rfl) (hplain : (backTo cpos (starEach es X.env)).any (·.1) = false := by rfl) :
    PE X (.Call (.Attribute o name apos) (e :: es) [] cpos) (tBMT r to t) := by
  refine ⟨fun pins s σ H Q I h => ?_⟩
  refine wpAny_Call_method_late hbase hfew hline rfl (thn (ho.run pins s σ H _ I h) fun v s1 ⟨x, H1, I1, r1, ⟨n, xs, ex, ob, hc, hd, hn⟩, q1⟩ => ?_)
  subst ex
  obtain rfl : v = Value.ref n := r1
  have g := (show ObjOk X.prog X.w H1 s1.heap n (.frz ob (.tup xs)) from I1.hok n _ hn).1
  refine ⟨"tuple", id, pa, slot, hty, ⟨ob, g, hc⟩, fun a ea => by cases ea; exact ⟨ob, g, hd⟩, ?_⟩
  have hA := ha.run cpos pins s1 σ H1 _ I1 q1
  rw [hs] at hA ⊢
  refine Calls.callWith_builtin (by show (false || (backTo cpos (starEach es X.env)).any (·.1)) = false; rw [hplain] <;> rfl) (Calls.evalArgs_plain ?_)
  exact thn hA fun us s2 ⟨vs, H2, I2, r2, q2⟩ => hm pins s2 σ H2 (.ref n) vs (.ref n) us Q I2 rfl r2 q2
end Mf
namespace Mf
open PySem L2
/-! ### the class Program -/
def flP (d n q : Addr) : List (Str × V) := putF "places" (.ref q) (putF "names" (.ref n) (putF "_bodies" (.ref d) []))
theorem flP_b (d n q : Addr) : (flP d n q).lookup ("_bodies" : Str) = some (.ref d) := by
  unfold flP
  rw [lookup_putF, if_neg (by decide), lookup_putF, if_neg (by decide), lookup_putF, if_pos rfl]
theorem flP_n (d n q : Addr) : (flP d n q).lookup ("names" : Str) = some (.ref n) := by
  unfold flP
  rw [lookup_putF, if_neg (by decide), lookup_putF, if_pos rfl]
theorem flP_q (d n q : Addr) : (flP d n q).lookup ("places" : Str) = some (.ref q) := by
  unfold flP
  rw [lookup_putF, if_pos rfl]
/-- a Program stands at p -/
structure PrgA (K : PySem.W.Frag) (Cp : Addr) (H : Hp) (p dx d n q : Addr) (us : List Addr) (rs : List Pr) (pl : List Str) : Prop where
  o : H p = some (.ins Cp dx (flP d n q))
  b : H d = some (.dK (kvsOf rs us))
  bo : BoA K H us rs
  st : ∀ r ∈ rs, StA H r.ts r.ss
  n : NmT H n ((rs.map Pr.name).map V.str)
  q : H q = some (.tup (pl.map V.str))
def pls (rs : List Pr) : List Pc := rs.map fun r => (r.name, r.ss)
theorem pls_names (rs : List Pr) : (pls rs).map (·.1) = rs.map Pr.name := by unfold pls; rw [List.map_map]; rfl
/-- the procedures are right -/
structure RightP (rs : List Pr) : Prop where
  few : rs.length ≤ 16
  ne : rs ≠ []
  nd : (rs.map Pr.name).Nodup
  ri : ∀ r ∈ rs, Right r
  ca : Called rs
def Prg (K : PySem.W.Frag) (Cp : Addr) (H : Hp) (p : Addr) (rs : List Pr) : Prop := ∃ dx d n q us pl, PrgA K Cp H p dx d n q us rs pl ∧ RightP rs ∧ Up pl ∧ ∀ z, z ∈ pl ↔ z ∈ readsOf rs
theorem StA.sameN {H H' : Hp} {ts : List Addr} {ss : List (Str × Str)} (x : StA H ts ss) (h : SameN H H') : StA H' ts ss := by
  induction x with
  | nil => exact .nil
  | cons a _ ih => exact .cons (h _ _ noL_tup a) ih
theorem BoA.sameN {K : PySem.W.Frag} {H H' : Hp} {us : List Addr} {rs : List Pr} (x : BoA K H us rs) (h : SameN H H') : BoA K H' us rs := by
  induction x with
  | nil => exact .nil
  | cons a _ ih => exact .cons (h.tup a) ih
theorem noL_frz {o : Obj} {u : HO} : NoL (.frz o u) := fun _ h => nomatch h
theorem PrgA.sameN {K : PySem.W.Frag} {Cp : Addr} {H H' : Hp} {p dx d n q : Addr} {us : List Addr} {rs : List Pr} {pl : List Str} (x : PrgA K Cp H p dx d n q us rs pl) (h : SameN H H') : PrgA K Cp H' p dx d n q us rs pl :=
  ⟨h _ _ noL_ins x.o, h _ _ noL_dK x.b, x.bo.sameN h, fun r hr => (x.st r hr).sameN h, x.n.mv fun _ e => h _ _ noL_frz e, h _ _ noL_tup x.q⟩
theorem Prg.sameN {K : PySem.W.Frag} {Cp : Addr} {H H' : Hp} {p : Addr} {rs : List Pr} (x : Prg K Cp H p rs) (h : SameN H H') : Prg K Cp H' p rs :=
  let ⟨dx, d, n, q, us, pl, a, b⟩ := x
  ⟨dx, d, n, q, us, pl, a.sameN h, b⟩
theorem Prg.same {K : PySem.W.Frag} {Cp : Addr} {H H' : Hp} {p : Addr} {rs : List Pr} (x : Prg K Cp H p rs) (h : Same H H') : Prg K Cp H' p rs := x.sameN (.of h)
structure PgC (K : PySem.W.Frag) (mg : Str → Option Value) (C : Addr) : Prop where
  ins : C8.InsC K C
  nB : NoAttr K C "_bodies"
  nN : NoAttr K C "names"
  nQ : NoAttr K C "places"
  mgC : mg "Program" = some (.ref C)
  kL : PySem.W.kitOne K (.type "list") (.ref C) = some false
  kT : PySem.W.kitOne K (.type "tuple") (.ref C) = some false
  bT : PySem.W.notFirst K C (.type "tuple") = true
  bL : PySem.W.notFirst K C (.type "list") = true
  mIsi : mg "isinstance" = none
  mTuple : mg "tuple" = none
  mLen : mg "len" = none
section
variable {P : Program} {w : World} {K : PySem.W.Frag} {mg : Str → Option Value} {base : Heap} {Cp C : Addr}
theorem PgC.isi {H : Hp} {p : Addr} {dx : Addr} {fs : List (Str × V)} (T : PgC K mg Cp) (h : H p = some (.ins Cp dx fs)) : TyX K H (.ref p) (.ref Cp) := .base (.ins h T.ins.cl T.ins.ha T.ins.hn T.ins.htk T.ins.hm)
def spPgInit (K : PySem.W.Frag) (Cp : Addr) : Sp := fun vs H Q _ => ∃ (p dx a : Addr) (ps : List Addr) (rs : List Pr), vs = [.ref p, .ref a] ∧ H p = some (.ins Cp dx []) ∧ (SqL K H a (ps.map V.ref) ∨ SqT K H a (ps.map V.ref)) ∧ Paired (PrA K H) ps rs ∧ RightP rs ∧
  ∀ H', Prg K Cp H' p rs → (∀ b o, b ≠ p → H b = some o → H' b = some o) → Q .non H'
abbrev sProgramInit : Stmt := inClass (top 18) 0
theorem scProgramInit : FnScope ["self", "procedures"] ["self", "procedures"] (defScope sProgramInit) := ⟨rfl, rfl, rfl, by decide +kernel, rfl, by decide +kernel, by decide +kernel⟩
theorem kvs_names : ∀ {rs : List Pr} {us : List Addr}, us.length = rs.length → ((kvsOf rs us).map fun kv => kV kv.1) = (rs.map Pr.name).map V.str
  | [], [], _ => rfl
  | a :: rs, b :: us, h => by
    show kV (Sum.inr a.name) :: (kvsOf rs us).map (fun kv => kV kv.1) = _
    rw [kvs_names (by simpa using h)]; rfl
  | [], b :: us, h => by simp at h
  | a :: rs, [], h => by simp at h
theorem PrA.sta {H : Hp} {ps : List Addr} {rs : List Pr} (h : Paired (PrA K H) ps rs) : ∀ r ∈ rs, StA H r.ts r.ss := by
  induction h with
  | nil => intro r hr; cases hr
  | cons a _ ih =>
    intro r hr
    rcases List.mem_cons.mp hr with rfl | hr
    · exact a.2.2
    · exact ih r hr
theorem paired_same {α β : Type} {R S : α → β → Prop} {xs : List α} {ys : List β} (r : Paired R xs ys) (h : ∀ a b, R a b → S a b) : Paired S xs ys := by
  induction r with
  | nil => exact .nil
  | cons a _ ih => exact .cons (h _ _ a) ih
/-- all but p, which is an instance, stays: what is not an instance -/
theorem but_tup {H H' : Hp} {p t : Addr} {o : HO} {xs : List V} (b : ∀ b o, b ≠ p → H b = some o → H' b = some o) (hp : H p = some o) (n : ∀ ys, o ≠ .tup ys ∧ ∀ q u, o ≠ .frz q u) (h : SqT K H t xs) : SqT K H' t xs := by
  rcases h with (h | ⟨q, h⟩) | h
  · exact .inl (.inl (b _ _ (fun e => by rw [e, hp] at h; exact (n xs).1 (Option.some.inj h)) h))
  · exact .inl (.inr ⟨q, b _ _ (fun e => by rw [e, hp] at h; exact (n xs).2 _ _ (Option.some.inj h)) h⟩)
  · exact .inr h
theorem ok_pgInit {f : Addr} {fd : FuncData} (F : Fun K "__init__" "Program.__init__" sProgramInit f fd) (T : PgC K mg Cp) (c__checked_bodies : Cal P w K mg base CX0 4 "_checked_bodies" ["procedures"] (spChecked K)) (c__check_callees : Cal P w K mg base CX0 1 "_check_callees" ["bodies"] (spCallees K))
    (c__places : Cal P w K mg base CX0 3 "_places" ["bodies"] (spPlaces K)) : FnOk P w K mg base CX0 5 f fd ["self", "procedures"] (spPgInit K Cp) := by
  refine F.ok scProgramInit (fun vs H Q E h => ?_) (fun cdv A outer s H vs Q E hr h => ?_)
  · obtain ⟨p, dx, a, ps, rs, rfl, _⟩ := h
    rfl
  · obtain ⟨p, dx, a, ps, rs, rfl, hp, ha, pr, R, k⟩ := h
    have mTuple := T.mTuple
    have hr__checked_bodies := hr; have hr__check_callees := hr.mono (by decide : 1 ≤ 4); have hr__places := hr.mono (by decide : 3 ≤ 4)
    refine ⟨_, (pss_cons (ps_fld (pv 0) (pe_cal c__checked_bodies hr__checked_bodies pass0 (pa_cons (pv 1) pa_nil)) rfl)
      (pss_cons (ps_expr (pe_cal c__check_callees hr__check_callees pass0 (pa_cons (fldK K (pv 0)) pa_nil)))
      (pss_cons (ps_fld (pv 0) (pe_callTy (call_tuple_dKF rfl) (by rfl) mTuple (by decide +kernel) (pa_cons (fldK K (pv 0)) pa_nil)) rfl)
      (pss_one (ps_fld (pv 0) (pe_cal c__places hr__places pass0 (pa_cons (fldK K (pv 0)) pa_nil)) rfl))))), ?_⟩
    refine ⟨_, rfl, a, ps, rs, rfl, ha, pr, R.few, R.ne, R.nd, R.ri, fun d us H1 hd bo s1 => ?_⟩
    have st1 : ∀ r ∈ rs, StA H1 r.ts r.ss := fun r hr => (PrA.sta pr r hr).same s1
    have hp1 := s1 _ _ hp
    refine ⟨_, rfl, p, Cp, dx, [], rfl, hp1, T.ins.cl, T.nB, (by show 0 < 1000; decide), ?_⟩
    -- behind self._bodies
    have b2 : ∀ b o, b ≠ p → H1 b = some o → (upd H1 p (.ins Cp dx (putF "_bodies" (.ref d) []))) b = some o := fun b o n e => by rw [upd_ne n]; exact e
    have hp2 : (upd H1 p (.ins Cp dx (putF "_bodies" (.ref d) []))) p = some (.ins Cp dx (putF "_bodies" (.ref d) [])) := upd_same
    have hd2 := b2 _ _ (ne_of hd hp1 (by intro z; cases z)) hd
    have st2 : ∀ r ∈ rs, StA (upd H1 p (.ins Cp dx (putF "_bodies" (.ref d) []))) r.ts r.ss := fun r hr => paired_same (st1 r hr) fun t s ht => b2 _ _ (ne_of ht hp1 (by intro z; cases z)) ht
    have bo2 : BoA K (upd H1 p (.ins Cp dx (putF "_bodies" (.ref d) []))) us rs := paired_same bo fun u r hu => but_tup b2 hp1 (fun _ => ⟨(by intro z; cases z), fun _ _ => (by intro z; cases z)⟩) hu
    generalize upd H1 p (.ins Cp dx (putF "_bodies" (.ref d) [])) = H2 at b2 hp2 hd2 st2 bo2
    have lb : (putF "_bodies" (.ref d) [] : List (Str × V)).lookup ("_bodies" : Str) = some (.ref d) := by rw [lookup_putF, if_pos rfl]
    refine ⟨_, rfl, p, Cp, dx, _, _, rfl, hp2, T.ins.cl, T.nB, lb, d, us, rs, rfl, hd2, bo2, st2, R.ca, fun H3 s3 => ?_⟩
    have hd3 := s3 _ _ hd2
    have hp3 := s3 _ _ hp2
    refine ⟨_, rfl, p, Cp, dx, _, _, rfl, hp3, T.ins.cl, T.nB, lb, d, _, rfl, hd3, fun n on hn on1 on2 => ?_⟩
    have hp4 := (Same.new (o := .frz on (.tup ((kvsOf rs us).map fun kv => kV kv.1))) hn) _ _ hp3
    refine ⟨_, rfl, p, Cp, dx, _, rfl, hp4, T.ins.cl, T.nN, (by show 1 < 1000; decide), ?_⟩
    have lu : us.length = rs.length := Paired.length bo
    rw [kvs_names lu] at hp4 ⊢
    have s4 : Same H3 (upd H3 n (.frz on (.tup ((rs.map Pr.name).map V.str)))) := Same.new hn
    have hn4 : (upd H3 n (.frz on (.tup ((rs.map Pr.name).map V.str)))) n = some (.frz on (.tup ((rs.map Pr.name).map V.str))) := upd_same
    generalize upd H3 n (.frz on (.tup ((rs.map Pr.name).map V.str))) = H4 at hp4 s4 hn4
    have b5 : ∀ b o, b ≠ p → H4 b = some o → (upd H4 p (.ins Cp dx (putF "names" (.ref n) (putF "_bodies" (.ref d) [])))) b = some o := fun b o n e => by rw [upd_ne n]; exact e
    have hp5 : (upd H4 p (.ins Cp dx (putF "names" (.ref n) (putF "_bodies" (.ref d) [])))) p = some (.ins Cp dx (putF "names" (.ref n) (putF "_bodies" (.ref d) []))) := upd_same
    generalize upd H4 p (.ins Cp dx (putF "names" (.ref n) (putF "_bodies" (.ref d) []))) = H5 at b5 hp5
    have hd4 := s4 _ _ hd3
    have hd5 := b5 _ _ (ne_of hd4 hp4 (by intro z; cases z)) hd4
    have hn5 := b5 _ _ (ne_of hn4 hp4 (by intro z; cases z)) hn4
    have s24 := s3.trans s4
    have st5 : ∀ r ∈ rs, StA H5 r.ts r.ss := fun r hr => paired_same ((st2 r hr).same s24) fun t s ht => b5 _ _ (ne_of ht hp4 (by intro z; cases z)) ht
    have bo5 : BoA K H5 us rs := paired_same (bo2.same s24) fun u r hu => but_tup b5 hp4 (fun _ => ⟨(by intro z; cases z), fun _ _ => (by intro z; cases z)⟩) hu
    have lb5 : (putF "names" (.ref n) (putF "_bodies" (.ref d) []) : List (Str × V)).lookup ("_bodies" : Str) = some (.ref d) := by rw [lookup_putF, if_neg (by decide), lookup_putF, if_pos rfl]
    refine ⟨_, rfl, p, Cp, dx, _, _, rfl, hp5, T.ins.cl, T.nB, lb5, d, us, rs, rfl, hd5, bo5, st5, R.few, R.ri, fun q pl H6 up m hq s6 => ?_⟩
    have hp6 := s6 _ _ hp5
    refine ⟨_, rfl, p, Cp, dx, _, rfl, hp6, T.ins.cl, T.nQ, (by show 2 < 1000; decide), ?_⟩
    have b7 : ∀ b o, b ≠ p → H6 b = some o → (upd H6 p (.ins Cp dx (flP d n q))) b = some o := fun b o n e => by rw [upd_ne n]; exact e
    refine k _ ⟨dx, d, n, q, us, pl, ⟨upd_same, ?_, ?_, ?_, ?_, ?_⟩, R, up, m⟩ fun b o nb e => ?_
    · exact b7 _ _ (ne_of (s6 _ _ hd5) hp6 (by intro z; cases z)) (s6 _ _ hd5)
    · exact paired_same (bo5.same s6) fun u r hu => but_tup b7 hp6 (fun _ => ⟨(by intro z; cases z), fun _ _ => (by intro z; cases z)⟩) hu
    · exact fun r hr => paired_same ((st5 r hr).same s6) fun t s ht => b7 _ _ (ne_of ht hp6 (by intro z; cases z)) ht
    · exact ⟨on, on1, on2, b7 _ _ (ne_of (s6 _ _ hn5) hp6 (by intro z; cases z)) (s6 _ _ hn5)⟩
    · exact b7 _ _ (ne_of hq hp6 (by intro z; cases z)) hq
    · exact b7 _ _ nb (s6 _ _ (b5 _ _ nb (s4 _ _ (s3 _ _ (b2 _ _ nb (s1 _ _ e))))))
end
end Mf
namespace Mf
open PySem L2
section
variable {P : Program} {w : World} {K : PySem.W.Frag} {mg : Str → Option Value} {base : Heap} {Cp C : Addr}
theorem kvs_val : ∀ {rs : List Pr} {us : List Addr} {r : Pr}, us.length = rs.length → (rs.map Pr.name).Nodup → r ∈ rs → ∃ (i : Nat) (u : Addr), rs[i]? = some r ∧ us[i]? = some u ∧ valV (kvsOf rs us) (Sum.inr r.name) = some (.ref u)
  | [], _, r, _, _, h => by cases h
  | a :: rs, [], _, h, _, _ => by simp at h
  | a :: rs, b :: us, r, l, nd, h => by
    rw [List.map_cons, List.nodup_cons] at nd
    show ∃ i u, _ ∧ _ ∧ valV ((Sum.inr a.name, V.ref b) :: kvsOf rs us) _ = _
    by_cases e : a.name = r.name
    · have hr : r = a := by
        rcases List.mem_cons.mp h with q | q
        · exact q
        · exact absurd (List.mem_map.mpr ⟨r, q, e.symm⟩) nd.1
      subst hr
      exact ⟨0, b, rfl, rfl, valV_pos rfl⟩
    · have hr : r ∈ rs := by
        rcases List.mem_cons.mp h with q | q
        · subst q; exact absurd rfl e
        · exact q
      obtain ⟨i, u, h1, h2, h3⟩ := kvs_val (by simpa using l) nd.2 hr
      exact ⟨i + 1, u, h1, h2, by rw [valV_neg (fun q => e (Sum.inr.inj q))]; exact h3⟩
def spPgGet (K : PySem.W.Frag) (Cp : Addr) : Sp := fun vs H Q _ => ∃ (p : Addr) (rs : List Pr) (r : Pr), vs = [.ref p, .str r.name] ∧ Prg K Cp H p rs ∧ r ∈ rs ∧ ∀ u, SqT K H u (r.ts.map V.ref) → StA H r.ts r.ss → Q (.ref u) H
abbrev sProgramGetitem : Stmt := inClass (top 18) 3
theorem scProgramGetitem : FnScope ["self", "name"] ["self", "name"] (defScope sProgramGetitem) := ⟨rfl, rfl, rfl, by decide +kernel, rfl, by decide +kernel, by decide +kernel⟩
theorem ok_pgGet {f : Addr} {fd : FuncData} (F : Fun K "__getitem__" "Program.__getitem__" sProgramGetitem f fd) (T : PgC K mg Cp) : FnOk P w K mg base CX0 1 f fd ["self", "name"] (spPgGet K Cp) := by
  refine F.ok scProgramGetitem (fun vs H Q E h => ?_) (fun cdv A outer s H vs Q E hr h => ?_)
  · obtain ⟨p, rs, r, rfl, _⟩ := h
    rfl
  · obtain ⟨p, rs, r, rfl, ⟨dx, d, n, q, us, pl, x, R, up, m⟩, hr', k⟩ := h
    have hu : (A.deeper (PyProof.Rows.envOfC "Program.__getitem__" (defScope sProgramGetitem) s.heap.objs.size f cdv)).units + 1 < cLine := by have := hr.units; omega
    refine ⟨_, (pss_cons (ps_if (pt_cmpR (nin K) (pv 1) (fldK K (pv 0)) (by rfl))
        (pss_one ps_never) pss_nil)
      (pss_one (ps_ret (pe_dget hu (fldK K (pv 0)) (pv 1) (fun _ _ => rfl))))), ?_⟩
    have ln : us.length = rs.length := Paired.length x.bo
    obtain ⟨i, u, h1, h2, h3⟩ := kvs_val ln R.nd hr'
    obtain ⟨r2, h4, h5⟩ := paired_get x.bo h2
    rw [h1] at h4
    cases h4
    refine ⟨_, rfl, _, rfl, p, Cp, dx, _, _, rfl, x.o, T.ins.cl, T.nN, flP_n d n q, n, _, rfl, .inr x.n.sq, rfl, flat_strs _, _, rfl, ?_⟩
    show if (!inV (.str r.name) ((rs.map Pr.name).map V.str)) = true then _ else _
    rw [inV_str, decide_eq_true (List.mem_map.mpr ⟨r, hr', rfl⟩)]
    refine iteF ?_
    exact ⟨_, rfl, p, Cp, dx, _, _, rfl, x.o, T.ins.cl, T.nB, flP_b d n q, _, rfl, d, _, rfl, .inl ⟨_, Sum.inr r.name, .inl x.b, rfl, h3.symm⟩, k u h5 (x.st r hr')⟩
def spPgHas (K : PySem.W.Frag) (Cp : Addr) : Sp := fun vs H Q _ => ∃ (p : Addr) (rs : List Pr) (z : Str), vs = [.ref p, .str z] ∧ Prg K Cp H p rs ∧ Q (.bl (decide (z ∈ rs.map Pr.name))) H
abbrev sProgramContains : Stmt := inClass (top 18) 5
theorem scProgramContains : FnScope ["self", "name"] ["self", "name"] (defScope sProgramContains) := ⟨rfl, rfl, rfl, by decide +kernel, rfl, by decide +kernel, by decide +kernel⟩
theorem ok_pgHas {f : Addr} {fd : FuncData} (F : Fun K "__contains__" "Program.__contains__" sProgramContains f fd) (T : PgC K mg Cp) : FnOk P w K mg base CX0 1 f fd ["self", "name"] (spPgHas K Cp) := by
  refine F.ok scProgramContains (fun vs H Q E h => ?_) (fun cdv A outer s H vs Q E hr h => ?_)
  · obtain ⟨p, rs, z, rfl, _⟩ := h
    rfl
  · obtain ⟨p, rs, z, rfl, ⟨dx, d, n, q, us, pl, x, R, up, m⟩, k⟩ := h
    refine ⟨_, (pss_one (ps_ret (pe_cmpR (oin K) (pv 1) (fldK K (pv 0)) (by rfl)))), ?_⟩
    refine ⟨_, rfl, _, rfl, p, Cp, dx, _, _, rfl, x.o, T.ins.cl, T.nN, flP_n d n q, n, _, rfl, .inr x.n.sq, rfl, flat_strs _, ?_⟩
    show Q (.bl (inV (.str z) ((rs.map Pr.name).map V.str))) H
    rw [inV_str]
    exact k
def spPgLen (K : PySem.W.Frag) (Cp : Addr) : Sp := fun vs H Q _ => ∃ (p : Addr) (rs : List Pr), vs = [.ref p] ∧ Prg K Cp H p rs ∧ Q (.int (rs.length : Nat)) H
abbrev sProgramLen : Stmt := inClass (top 18) 6
theorem scProgramLen : FnScope ["self"] ["self"] (defScope sProgramLen) := ⟨rfl, rfl, rfl, by decide +kernel, rfl, by decide +kernel, by decide +kernel⟩
theorem ok_pgLen {f : Addr} {fd : FuncData} (F : Fun K "__len__" "Program.__len__" sProgramLen f fd) (T : PgC K mg Cp) : FnOk P w K mg base CX0 1 f fd ["self"] (spPgLen K Cp) := by
  refine F.ok scProgramLen (fun vs H Q E h => ?_) (fun cdv A outer s H vs Q E hr h => ?_)
  · obtain ⟨p, rs, rfl, _⟩ := h
    rfl
  · obtain ⟨p, rs, rfl, ⟨dx, d, n, q, us, pl, x, R, up, m⟩, k⟩ := h
    have mLen := T.mLen
    refine ⟨_, (pss_one (ps_ret (pe_callB (k_len K) (by rfl) mLen (by decide +kernel) (pa_cons (fldK K (pv 0)) pa_nil)))), ?_⟩
    refine ⟨_, rfl, p, Cp, dx, _, _, rfl, x.o, T.ins.cl, T.nN, flP_n d n q, n, _, rfl, .inr x.n.sq, ?_⟩
    rw [List.length_map, List.length_map]
    exact k
/-! ### == -/
theorem names_ok {rs : List Pr} (R : RightP rs) : ∀ z ∈ rs.map Pr.name, PyData.strOk z = true := fun z hz => by
  obtain ⟨r, hr, rfl⟩ := List.mem_map.mp hz
  exact (R.ri r hr).1.ok
def dsOf (rs : List Pr) : List (Key × PyData) := rs.map fun r => (Sum.inr r.name, bdT r.ss)
theorem dp_body {H : Hp} {u : Addr} {r : Pr} (h : SqT K H u (r.ts.map V.ref)) (st : StA H r.ts r.ss) : Dp K H (.ref u) (bdT r.ss) :=
  .tup h (dpPair st fun t s ht => .tup (.of ht) (.cons (.str _) (.cons (.str _) .nil)))
theorem right_st {r : Pr} (h : Right r) : ∀ s ∈ r.ss, StOk s := fun s hs => stepB_ok (bodyB_st h.2.1 s hs)
theorem dpKV_of {H : Hp} : ∀ {rs : List Pr} {us : List Addr}, BoA K H us rs → (∀ r ∈ rs, StA H r.ts r.ss) → (∀ r ∈ rs, Right r) → DpKV K H (kvsOf rs us) (dsOf rs)
  | [], [], _, _, _ => .nil
  | r :: rs, u :: us, .cons a b, st, ri => .cons ⟨rfl, dp_body a (st r List.mem_cons_self), (sh_bdT (right_st (ri r List.mem_cons_self))).sh⟩ (dpKV_of b (fun x hx => st x (List.mem_cons_of_mem _ hx)) fun x hx => ri x (List.mem_cons_of_mem _ hx))
theorem valD_of : ∀ {rs : List Pr} {r : Pr}, (rs.map Pr.name).Nodup → r ∈ rs → valD (dsOf rs) (Sum.inr r.name) = some (bdT r.ss)
  | [], r, _, h => by cases h
  | a :: rs, r, nd, h => by
    rw [List.map_cons, List.nodup_cons] at nd
    unfold valD dsOf
    rw [List.map_cons]
    by_cases e : a.name = r.name
    · rw [List.find?_cons_of_pos (by simpa using e)]
      rcases List.mem_cons.mp h with q | q
      · rw [q]; rfl
      · exact absurd (List.mem_map.mpr ⟨r, q, e.symm⟩) nd.1
    · rw [List.find?_cons_of_neg (by simpa using e)]
      rcases List.mem_cons.mp h with q | q
      · subst q; exact absurd rfl e
      · exact valD_of nd.2 q
theorem eqv_dsE {es : List Pr} (nd : (es.map Pr.name).Nodup) : ∀ {rs es' : List Pr}, (∀ e ∈ es', e ∈ es) → rs.map Pr.name = es'.map Pr.name → eqvKV (dsOf es) (dsOf rs) = decide (pls rs = pls es')
  | [], [], _, _ => rfl
  | [], _ :: _, _, h => by simp at h
  | _ :: _, [], _, h => by simp at h
  | r :: rs, e :: es', hm, h => by
    rw [List.map_cons, List.map_cons, List.cons.injEq] at h
    show ((match valD (dsOf es) (Sum.inr r.name) with | some d => PyData.eqv (bdT r.ss) d | none => false) && eqvKV (dsOf es) (dsOf rs)) = decide ((r.name, r.ss) :: pls rs = (e.name, e.ss) :: pls es')
    rw [h.1, valD_of nd (hm e List.mem_cons_self), eqv_dsE nd (fun x hx => hm x (List.mem_cons_of_mem _ hx)) h.2]
    show (PyData.eqv (bdT r.ss) (bdT e.ss) && _) = _
    rw [eqv_bdT]
    by_cases a : r.ss = e.ss <;> by_cases b : pls rs = pls es' <;> simp [a, b]
def OthP (K : PySem.W.Frag) (Cp : Addr) (H : Hp) (y : V) (rs : List Pr) (b : Bool) : Prop := (∃ q es, y = .ref q ∧ Prg K Cp H q es ∧ b = decide (pls rs = pls es)) ∨ ∃ t, TyX K H y t ∧ PySem.W.kitOne K t (.ref Cp) = some false ∧ b = false
def spPgEq (K : PySem.W.Frag) (Cp : Addr) : Sp := fun vs H Q _ => ∃ (p : Addr) (rs : List Pr) (y : V) (b : Bool), vs = [.ref p, y] ∧ Prg K Cp H p rs ∧ OthP K Cp H y rs b ∧ Q (.bl b) H
abbrev sProgramEq : Stmt := inClass (top 18) 7
theorem scProgramEq : FnScope ["self", "other"] ["self", "other"] (defScope sProgramEq) := ⟨rfl, rfl, rfl, by decide +kernel, rfl, by decide +kernel, by decide +kernel⟩
theorem ok_pgEq {f : Addr} {fd : FuncData} (F : Fun K "__eq__" "Program.__eq__" sProgramEq f fd) (T : PgC K mg Cp) : FnOk P w K mg base CX0 2 f fd ["self", "other"] (spPgEq K Cp) := by
  refine F.ok scProgramEq (fun vs H Q E h => ?_) (fun cdv A outer s H vs Q E hr h => ?_)
  · obtain ⟨p, rs, y, b, rfl, _⟩ := h
    rfl
  · obtain ⟨p, rs, y, b, rfl, ⟨dx, d, n, q, us, pl, x, R, up, m⟩, ho, k⟩ := h
    have mIsi := T.mIsi; have mg_Program := T.mgC
    have hu : (A.deeper (PyProof.Rows.envOfC "Program.__eq__" (defScope sProgramEq) s.heap.objs.size f cdv)).units + 65 < cLine := by
      have q := (Room.in1 (k := 0) hr).units
      exact q
    refine ⟨_, (pss_one (ps_ret (pe_and (pe_callB (k_isi K) (by rfl) mIsi (by decide +kernel) (pa_cons (pv 1) (pa_cons (pe_glob (v := .ref _) rfl mg_Program rfl) pa_nil))) (pe_and (pe_cmpR (eqD K hr) (fldK K (pv 0)) (fldK K (pv 1)) (nomark _)) (pe_one (pe_cmpR (op_eqDD hu) (fldK K (pv 0)) (fldK K (pv 1)) (nomark _))))))), ?_⟩
    rcases ho with ⟨q2, es, rfl, ⟨dy, d2, n2, q', us2, pl2, x2, R2, up2, m2⟩, rfl⟩ | ⟨ty, hy, e, rfl⟩
    · refine ⟨_, rfl, _, _, _, _, true, rfl, .own Cp, T.isi x2.o, T.ins.me, _, rfl, iteT ⟨_, rfl, p, Cp, dx, _, _, rfl, x.o, T.ins.cl, T.nN, flP_n d n q, _, rfl, q2, Cp, dy, _, _, rfl, x2.o, T.ins.cl, T.nN, flP_n d2 n2 q', ?_⟩⟩
      refine ⟨_, _, .tup x.n.sq (dpS _), .tup x2.n.sq (dpS _), shT (names_ok R), shT (names_ok R2), _, rfl, ?_⟩
      show if PyData.eqvAll _ _ = true then _ else _
      rw [eqvS]
      by_cases e : rs.map Pr.name = es.map Pr.name
      · rw [decide_eq_true e]
        refine iteT ?_
        refine ⟨_, rfl, p, Cp, dx, _, _, rfl, x.o, T.ins.cl, T.nB, flP_b d n q, _, rfl, q2, Cp, dy, _, _, rfl, x2.o, T.ins.cl, T.nB, flP_b d2 n2 q', ?_⟩
        refine ⟨d, d2, _, _, dsOf rs, dsOf es, rfl, rfl, x.b, x2.b, dpKV_of x.bo x.st R.ri, dpKV_of x2.bo x2.st R2.ri, ?_⟩
        have l : (dsOf rs).length = (dsOf es).length := by
          unfold dsOf
          rw [List.length_map, List.length_map]
          have := congrArg List.length e
          simpa using this
        rw [decide_eq_true l, Bool.true_and, eqv_dsE R2.nd (fun _ h => h) e]
        exact k
      · rw [decide_eq_false e]
        refine iteF ?_
        have e2 : ¬ pls rs = pls es := fun q => e (by rw [← pls_names, ← pls_names, q])
        rw [decide_eq_false e2] at k
        exact k
    · exact ⟨_, rfl, _, _, _, _, false, rfl, .own Cp, hy, e, _, rfl, iteF k⟩
end
end Mf
namespace Mf
open PySem L2
section
variable {P : Program} {w : World} {K : PySem.W.Frag} {mg : Str → Option Value} {base : Heap}
abbrev psD : List Str := ["_law_source_here", "_law_many"]

/-! ### _law_name -/
def spName (K : PySem.W.Frag) : Sp := fun vs H Q _ => ∃ (a t : Addr) (taken : List Str) (n : Nat), vs = [.ref a, .ref t] ∧ Src H a (n + 10) ∧ t ≠ a ∧ SqL K H t (taken.map V.str) ∧ taken.length ≤ 16 ∧
  ∀ z H', IsName z → z ∉ taken → Kp a H H' → Src H' a n → Q (.str z) H'
abbrev sName : Stmt := top 31
theorem scName : FnScope ["_law_source_here", "_law_taken", "_law_size", "_law_name_here", "_law_k", "_law_one", "_law_letter"] ["_law_source_here", "_law_taken"] (defScope sName) := ⟨rfl, rfl, rfl, by decide +kernel, rfl, by decide +kernel, by decide +kernel⟩
def zAt (c : Nat) : Str := ("z" : Str) ++ ⟨#[c]⟩
theorem zAt_name {c : Nat} (h : Low c) : IsName (zAt c) := by
  have e : (zAt c).cps.toList = [122, c] := str_add _ _
  refine ⟨?_, ?_, ?_⟩
  · rw [← Array.length_toList, e]; exact (by decide : 1 ≤ 2)
  · rw [← Array.length_toList, e]; exact (by decide : 2 ≤ 8)
  · rw [e]; intro d hd
    rcases List.mem_cons.mp hd with rfl | hd
    · unfold Low; omega
    · rw [List.mem_singleton.mp hd]; exact h
theorem zAt_inj {c d : Nat} (h : zAt c = zAt d) : c = d := by
  have e : (zAt c).cps.toList = (zAt d).cps.toList := by rw [h]
  have e1 : (zAt c).cps.toList = [122, c] := str_add _ _
  have e2 : (zAt d).cps.toList = [122, d] := str_add _ _
  rw [e1, e2] at e
  simpa using e
theorem sizes_at {v : Int} (h0 : 0 ≤ v) (h : v < 13) : ∃ m : Nat, atI [V.int 8, .int 4, .int 5, .int 6, .int 7, .int 1, .int 2, .int 3, .int 1, .int 2, .int 3, .int 1, .int 2] v = some (.int (m : Nat)) ∧ 1 ≤ m ∧ m ≤ 8 := by
  obtain ⟨n, rfl⟩ := Int.eq_ofNat_of_zero_le h0
  have e : ∀ n : Fin 13, atI [V.int 8, .int 4, .int 5, .int 6, .int 7, .int 1, .int 2, .int 3, .int 1, .int 2, .int 3, .int 1, .int 2] ((n.val : Nat) : Int) = some (.int (([8, 4, 5, 6, 7, 1, 2, 3, 1, 2, 3, 1, 2].getD n.val 0 : Nat))) ∧ 1 ≤ ([8, 4, 5, 6, 7, 1, 2, 3, 1, 2, 3, 1, 2].getD n.val 0) ∧ ([8, 4, 5, 6, 7, 1, 2, 3, 1, 2, 3, 1, 2].getD n.val 0) ≤ 8 := by decide +kernel
  exact ⟨_, e ⟨n, by omega⟩⟩
theorem cut_q {z : Str} (h : IsName z) (h8 : z.length < 8) : IsName (("q" : Str) ++ cutS z (some 1) none) := by
  have hz : z.cps.toList.length = z.length := Array.length_toList
  have e : (("q" : Str) ++ cutS z (some 1) none).cps.toList = 113 :: (z.cps.toList.drop (HT.sIx z.length 0 (some 1))).take (HT.sIx z.length z.length none - HT.sIx z.length 0 (some 1)) := str_add _ _
  have l : (z.cps.toList.drop (HT.sIx z.length 0 (some 1))).take (HT.sIx z.length z.length none - HT.sIx z.length 0 (some 1)) ⊆ z.cps.toList := fun c hc => List.mem_of_mem_drop (List.mem_of_mem_take hc)
  have b : ((z.cps.toList.drop (HT.sIx z.length 0 (some 1))).take (HT.sIx z.length z.length none - HT.sIx z.length 0 (some 1))).length ≤ 7 := by
    rw [List.length_take, List.length_drop, hz]; omega
  refine ⟨?_, ?_, ?_⟩
  · rw [← Array.length_toList, e, List.length_cons]; omega
  · rw [← Array.length_toList, e, List.length_cons]; omega
  · rw [e]; intro c hc
    rcases List.mem_cons.mp hc with rfl | hc
    · unfold Low; omega
    · exact h.2.2 c (l hc)
theorem kinds_names : ∀ z ∈ ([("read" : Str), "call", "say", "try"] : List Str), IsName z := by decide +kernel
theorem zs_fresh {taken : List Str} (h : taken.length ≤ 16) : (("abcdefghijklmnopq" : Str).cps.toList.map zAt).filter (fun z => !decide (z ∈ taken)) ≠ [] := by
  intro e
  have sub : (("abcdefghijklmnopq" : Str).cps.toList.map zAt) ⊆ taken := fun z hz => by
    refine Classical.byContradiction fun n => ?_
    have m : z ∈ (("abcdefghijklmnopq" : Str).cps.toList.map zAt).filter (fun z => !decide (z ∈ taken)) := List.mem_filter.mpr ⟨hz, by simp [n]⟩
    rw [e] at m
    cases m
  have nd : (("abcdefghijklmnopq" : Str).cps.toList.map zAt).Nodup := by
    refine List.Pairwise.map _ (fun a b (n : a ≠ b) q => n (zAt_inj q)) ?_
    show (("abcdefghijklmnopq" : Str).cps.toList).Nodup
    decide +kernel
  have l := nodup_le nd sub
  rw [List.length_map] at l
  have : ("abcdefghijklmnopq" : Str).cps.toList.length = 17 := by decide +kernel
  omega
theorem ok_name {f : Addr} {fd : FuncData} (F : Fun K "_law_name" "_law_name" sName f fd) (c_draw : Cal P w K mg base CX0 1 "_law_draw" psD spDraw) (mRange : mg "range" = none) : FnOk P w K mg base CX0 2 f fd ["_law_source_here", "_law_taken"] (spName K) := by
  refine F.ok scName (fun vs H Q E h => ?_) (fun cdv A outer s H vs Q E hr h => ?_)
  · obtain ⟨a, t, taken, n, rfl, _⟩ := h
    rfl
  · obtain ⟨a, t, taken, n, rfl, S, ta, ht, tl, k⟩ := h
    have hr_draw : Room 1 (A.deeper (PyProof.Rows.envOfC "_law_name" (defScope sName) s.heap.objs.size f cdv)) := hr
    refine ⟨_, (pss_cons (ps_set (i := 2) scName.nd rfl (by first | exact Or.inl rfl | exact Or.inr rfl) (pe_ix (ixl K) (pe_lst (pa_cons pe_int (pa_cons pe_int (pa_cons pe_int (pa_cons pe_int (pa_cons pe_int (pa_cons pe_int (pa_cons pe_int (pa_cons pe_int (pa_cons pe_int (pa_cons pe_int (pa_cons pe_int (pa_cons pe_int (pa_cons pe_int pa_nil)))))))))))))) (pe_cal c_draw hr_draw pass0 (pa_cons (pv 0) (pa_cons pe_int pa_nil))) (fun _ _ => rfl)))
      (pss_cons (ps_set (i := 3) scName.nd rfl (by first | exact Or.inl rfl | exact Or.inr rfl) (pe_join pe_str (pe_lc (own := [("_law_k", 4)]) (g := (gName 4)) (tt := tYes) rfl scName.nd (pi_range1 (by rfl) mRange (pa_cons (pv 2) pa_nil)) (blkOk_by (own := [("_law_k", 4)]) (N := ["_law_source_here", "_law_taken", "_law_size", "_law_name_here", "_law_k", "_law_one", "_law_letter"]) (sc := defScope sName) (by decide +kernel)) (fun _ _ _ _ _ => (pg_name (i := 4) scName.nd rfl (by first | exact Or.inl rfl | exact Or.inr rfl))) (fun _ _ _ _ _ => pts_nil) (fun _ _ _ _ _ => (pe_ix ix_str pe_str (pe_cal c_draw hr_draw pass0 (pa_cons (pv 0) (pa_cons pe_int pa_nil))) (fun _ _ => rfl))))))
      (C8.pss_cut (ps_if (pt_chain op_lt op_lt pe_int (pv 2) pe_int)
        (pss_one (ps_set (i := 3) scName.nd rfl (by first | exact Or.inl rfl | exact Or.inr rfl) (pe_ix (ixl K) (pe_lst (pa_cons pe_str (pa_cons pe_str (pa_cons pe_str (pa_cons pe_str (pa_cons (pe_op op_add_str pe_str (pe_slice sl_str (pv 3) (po_some pe_int) po_none)) pa_nil)))))) (pe_cal c_draw hr_draw pass0 (pa_cons (pv 0) (pa_cons pe_int pa_nil))) (fun _ _ => rfl)))) pss_nil)
      (pss_cons (ps_if (pt_cmpR (nin K) (pv 3) (pv 1) (by rfl))
        (pss_one (ps_ret (pv 3))) pss_nil)
      (pss_one (ps_ret (pe_ix (ixl K) (pe_lc (own := [("_law_one", 5)]) (g := (gName 5)) rfl scName.nd (pi_list (pe_lc (own := [("_law_letter", 6)]) (g := (gName 6)) (tt := tYes) rfl scName.nd (pi_str pe_str) (blkOk_by (own := [("_law_letter", 6)]) (N := ["_law_source_here", "_law_taken", "_law_size", "_law_name_here", "_law_k", "_law_one", "_law_letter"]) (sc := defScope sName) (by decide +kernel)) (fun _ _ _ _ _ => (pg_name (i := 6) scName.nd rfl (by first | exact Or.inl rfl | exact Or.inr rfl))) (fun _ _ _ _ _ => pts_nil) (fun _ _ _ _ _ => (pe_op op_add_str pe_str (pv 6))))) (blkOk_by (own := [("_law_one", 5)]) (N := ["_law_source_here", "_law_taken", "_law_size", "_law_name_here", "_law_k", "_law_one", "_law_letter"]) (sc := defScope sName) (by decide +kernel)) (fun _ _ _ _ _ => (pg_name (i := 5) scName.nd rfl (by first | exact Or.inl rfl | exact Or.inr rfl))) (fun _ _ _ _ _ => pts_one (pt_cmpR (nin K) (pv 5) (pv 1) (by rfl))) (fun _ _ _ _ _ => (pv 5))) pe_int (fun _ _ => rfl)))))))), ?_⟩
    refine ⟨(by show 13 ≤ sizeLine; decide), fun l hl => ⟨_, rfl, a, 13, n + 9, rfl, by decide, by decide, S.new hl, fun v H1 v0 v1 k1 S1 => ?_⟩⟩
    obtain ⟨m, hm, m1, m8⟩ := sizes_at v0 v1
    refine ⟨l, _, v, _, rfl, rfl, .of (k1 _ _ (S.ne hl) upd_same), hm, ?_⟩
    have k1 : Kp a H H1 := (Kp.new hl).trans k1
    refine ⟨⟨_, rfl⟩, _, rfl, m, rfl, by omega, by omega, fun D hD => ?_⟩
    refine lc_range (lo := 0) (n := m) (fun i H' => ∃ cs : List Nat, cs.length = i ∧ (∀ c ∈ cs, Low c) ∧ H' D = some (.lst (cs.map fun c => V.str ⟨#[c]⟩)) ∧ Kp a H1 H' ∧ Src H' a (n + 9 - i) ∧ D ≠ a) ⟨[], rfl, (by simp), upd_same, Kp.new hD, S1.new hD, S1.ne hD⟩ ?_ ?_
    · rintro i H2 hi ⟨cs, hc, low, h2, k2, S2, Da⟩
      refine ⟨rfl, yes_then ?_⟩
      refine ⟨_, rfl, a, 26, n + 8 - i, rfl, by decide, by decide, S2.mono (by omega), fun v H3 v0 v1 k3 S3 => ?_⟩
      obtain ⟨c, hcc, lc⟩ := alpha_at v0 v1
      refine ⟨_, v, c, rfl, rfl, (by show 26 ≤ sizeLine; decide), hcc, _, k3 _ _ Da h2, (by rw [List.length_map, hc]; exact Nat.lt_of_lt_of_le (by omega : i < 9) (by decide)), cs ++ [c], by rw [List.length_append, hc]; rfl, fun d hd => ?_, ?_, ?_, ?_, Da⟩
      · rcases List.mem_append.mp hd with hd | hd
        · exact low d hd
        · rw [List.mem_singleton.mp hd]; exact lc
      · rw [upd_same, List.map_append]; rfl
      · exact (k2.trans k3).mut (H := H1) hD
      · exact (S3.put Da).mono (by omega)
    · rintro H2 ⟨cs, hc, low, h2, k2, S2, Da⟩
      have e1 : (cs.map fun c => V.str ⟨#[c]⟩) = ((cs.map fun c => (⟨#[c]⟩ : Str)).map V.str) := by rw [List.map_map]; rfl
      rw [e1] at h2
      have one : ∀ y ∈ cs.map (fun c => (⟨#[c]⟩ : Str)), y.length ≤ 1 := fun y hy => by
        obtain ⟨c, _, rfl⟩ := List.mem_map.mp hy
        exact Nat.le_refl 1
      refine ⟨_, D, _, rfl, rfl, .inl (.of h2), ?_, ?_⟩
      · have q := sum_len one
        rw [List.length_map] at q ⊢
        show _ + cs.length * 0 ≤ _
        omega
      rw [join_signs]
      have nm : IsName (⟨cs.toArray⟩ : Str) := ⟨by show 1 ≤ cs.toArray.size; simp; omega, by show cs.toArray.size ≤ 8; simp; omega, fun c hc => low c (by simpa using hc)⟩
      have sz : (⟨cs.toArray⟩ : Str).cps.size = m := by show cs.toArray.size = m; simp; omega
      generalize (⟨cs.toArray⟩ : Str) = z at nm sz
      have k2 : Kp a H H2 := k1.trans k2
      refine ⟨fun σ' H' => ∃ z, σ' = [some (.ref a), some (.ref t), some (.int (m : Nat)), some (.str z), none, none, none] ∧ IsName z ∧ Kp a H H' ∧ Src H' a n, ?_, ?_⟩
      · refine ⟨_, rfl, _, _, rfl, rfl, _, rfl, ite2 (fun h3 => ?_) fun _ => ?_⟩
        · refine ⟨_, _, rfl, rfl, _, rfl, ite2 (fun h8 => ?_) fun _ => ?_⟩
          · have m7 : (m : Int) < 8 := of_decide_eq_true h8
            refine ⟨_, rfl, _, rfl, z, rfl, Nat.le_trans nm.len (by decide), _, _, rfl, rfl, ?_, ?_⟩
            · have q := cutS_length z (some 1) none
              have q2 := nm.len
              show 1 + _ ≤ _
              exact Nat.le_trans (by omega : _ ≤ 9) (by decide)
            refine ⟨(by show 5 ≤ sizeLine; decide), fun l2 hl2 => ⟨_, rfl, a, 5, n, rfl, by decide, by decide, (S2.mono (by omega : n + 1 ≤ n + 9 - m)).new hl2, fun v H3 v0 v1 k3 S3 => ?_⟩⟩
            obtain ⟨x, hx, hat⟩ := atI_mem (xs := [V.str "read", .str "call", .str "say", .str "try", .str (("q" : Str) ++ cutS z (some 1) none)]) v0 v1
            have hx' : ∃ y, x = .str y ∧ IsName y := by
              have kk := kinds_names
              simp only [List.mem_cons, List.not_mem_nil, or_false] at hx kk
              rcases hx with rfl | rfl | rfl | rfl | rfl
              · exact ⟨_, rfl, kk _ (by simp)⟩
              · exact ⟨_, rfl, kk _ (by simp)⟩
              · exact ⟨_, rfl, kk _ (by simp)⟩
              · exact ⟨_, rfl, kk _ (by simp)⟩
              · exact ⟨_, rfl, cut_q nm (by have : z.length = z.cps.size := rfl; omega)⟩
            obtain ⟨y, rfl, ny⟩ := hx'
            exact ⟨l2, _, v, _, rfl, rfl, .of (k3 _ _ (S2.ne hl2) upd_same), hat, y, rfl, ny, (k2.trans (Kp.new hl2)).trans k3, S3⟩
          · exact ⟨z, rfl, nm, k2, S2.mono (by omega)⟩
        · exact ⟨_, rfl, iteF ⟨z, rfl, nm, k2, S2.mono (by omega)⟩⟩
      · rintro σ' H3 ⟨z, rfl, nm, k3, S3⟩
        have ht3 := k3.lst ta ht
        have fl : (taken.map V.str).all flatV = true := by rw [List.all_map]; exact List.all_eq_true.mpr fun _ _ => rfl
        refine ⟨_, rfl, _, rfl, t, _, rfl, .inl ht3, rfl, fl, _, rfl, ?_⟩
        show if (!inV (.str z) (taken.map V.str)) = true then _ else _
        rw [inV_str]
        by_cases hz : z ∈ taken
        · rw [decide_eq_true hz]
          refine iteF ?_
          refine ⟨_, rfl, fun E1 hE1 => ?_⟩
          refine lc_it walk_str (fun i H' => H' E1 = some (.lst ((("abcdefghijklmnopq" : Str).cps.toList.take i).map fun c => V.str (zAt c))) ∧ Kp a H3 H' ∧ Src H' a n) ⟨upd_same, Kp.new hE1, S3.new hE1⟩ (fun _ _ _ _ => trivial) ?_ ?_
          · rintro i x H4 _ hi ⟨h4, k4, S4⟩ ⟨rfl, c, hc, rfl⟩
            refine ⟨rfl, yes_then ?_⟩
            refine ⟨_, rfl, _, _, rfl, rfl, (by show 1 + 1 ≤ sizeLine; decide), _, h4, ?_, ?_, ?_, ?_⟩
            · rw [List.length_map]
              exact Nat.lt_of_le_of_lt (List.length_take_le _ _) (Nat.lt_of_lt_of_le (show i < 17 from hi) (by decide))
            · rw [upd_same, List.take_add_one, List.map_append]
              have e : ("abcdefghijklmnopq" : Str).cps.toList[i]? = some c := by rw [Array.getElem?_toList]; exact hc
              rw [e]; rfl
            · exact k4.mut hE1
            · exact S4.put (S3.ne hE1)
          · rintro H4 ⟨h4, k4, S4⟩
            have e17 : (("abcdefghijklmnopq" : Str).cps.toList.take ("abcdefghijklmnopq" : Str).cps.size).map (fun c => V.str (zAt c)) = (("abcdefghijklmnopq" : Str).cps.toList.map zAt).map V.str := by
              rw [List.take_of_length_le (by rw [Array.length_toList]; exact Nat.le_refl _), List.map_map]; rfl
            rw [e17] at h4
            have low : ∀ z ∈ ("abcdefghijklmnopq" : Str).cps.toList.map zAt, IsName z := fun z hz => by
              obtain ⟨c, hc, rfl⟩ := List.mem_map.mp hz
              refine zAt_name ?_
              have all : ∀ c ∈ ("abcdefghijklmnopq" : Str).cps.toList, 97 ≤ c ∧ c ≤ 122 := by decide +kernel
              exact all c hc
            have fresh := zs_fresh tl
            have len17 : (("abcdefghijklmnopq" : Str).cps.toList.map zAt).length = 17 := by decide +kernel
            generalize ("abcdefghijklmnopq" : Str).cps.toList.map zAt = zs at h4 low fresh len17
            refine ⟨E1, rfl, ⟨_, .of h4⟩, fun E2 hE2 => ?_⟩
            have n21 : E1 ≠ E2 := Ne.symm (ne_none hE2 h4)
            refine lc_it walk_list (fun i H' => H' E2 = some (.lst (((zs.take i).filter fun z => !decide (z ∈ taken)).map V.str)) ∧ Kp a H4 H' ∧ Src H' a n) ⟨upd_same, Kp.new hE2, S4.new hE2⟩ (fun i H' _ q => .of (q.2.1 _ _ (by exact ne_none hE1 (show H3 a = some _ from S3.choose_spec.choose_spec.choose_spec.1)) h4)) ?_ ?_
            · rintro i x H5 _ hi ⟨h5, k5, S5⟩ ⟨rfl, hx⟩
              rw [List.getElem?_map] at hx
              obtain ⟨y, hy, rfl⟩ := Option.map_eq_some_iff.mp hx
              have ht5 := (k4.trans k5).lst ta ht3
              have tk : zs.take (i + 1) = zs.take i ++ [y] := by rw [List.take_add_one, hy]; rfl
              refine ⟨rfl, _, rfl, _, rfl, t, _, rfl, .inl ht5, rfl, fl, _, rfl, ?_⟩
              show if (!inV (.str y) (taken.map V.str)) = true then _ else _
              rw [inV_str]
              by_cases hz : y ∈ taken
              · rw [decide_eq_true hz]
                refine iteF ⟨?_, k5, S5⟩
                rw [tk, List.filter_append, List.filter_cons_of_neg (by simp [hz]), List.filter_nil, List.append_nil]
                exact h5
              · rw [decide_eq_false hz]
                refine iteT ⟨_, rfl, _, h5, ?_, ?_, k5.mut hE2, S5.put (S4.ne hE2)⟩
                · rw [List.length_map]
                  refine Nat.lt_of_le_of_lt (Nat.le_trans (List.length_filter_le _ _) (List.length_take_le _ _)) (Nat.lt_of_lt_of_le (show i < 17 by rw [List.length_map, len17] at hi; exact hi) (by decide))
                · rw [upd_same, tk, List.filter_append, List.filter_cons_of_pos (by simp [hz]), List.filter_nil, List.map_append]
                  rfl
            · rintro H5 ⟨h5, k5, S5⟩
              rw [List.length_map, List.take_length] at h5
              have nice : ∀ z ∈ zs.filter (fun z => !decide (z ∈ taken)), IsName z ∧ z ∉ taken := fun z hz => by
                obtain ⟨m1, m2⟩ := List.mem_filter.mp hz
                exact ⟨low z m1, by simpa using m2⟩
              generalize zs.filter (fun z => !decide (z ∈ taken)) = fs at fresh nice h5
              rcases fs with _ | ⟨y, ys⟩
              · exact absurd rfl fresh
              · obtain ⟨n1, n2⟩ := nice y List.mem_cons_self
                exact ⟨E2, _, 0, .str y, rfl, rfl, .of h5, atI_nat (j := 0) rfl, k y H5 n1 n2 ((k3.trans k4).trans k5) S5⟩
        · rw [decide_eq_false hz]
          exact iteT ⟨_, rfl, k z H3 nm hz k3 S3⟩
def spNames : Sp := fun vs H Q _ => ∃ (a : Addr) (many n : Nat), vs = [.ref a, .int many] ∧ many ≤ 16 ∧ Src H a (n + 10 * many) ∧
  ∀ (p : Addr) (zs : List Str) (H' : Hp), zs.length = many → zs.Nodup → (∀ z ∈ zs, IsName z) → H p = none → H' p = some (.lst (zs.map V.str)) → Kp a H H' → Src H' a n → Q (.ref p) H'
abbrev sNames : Stmt := top 32
theorem scNames : FnScope ["_law_source_here", "_law_many", "_law_names_here", "_law_k"] ["_law_source_here", "_law_many"] (defScope sNames) := ⟨rfl, rfl, rfl, by decide +kernel, rfl, by decide +kernel, by decide +kernel⟩
theorem ok_names {f : Addr} {fd : FuncData} (F : Fun K "_law_names" "_law_names" sNames f fd) (c_name : Cal P w K mg base CX0 2 "_law_name" ["_law_source_here", "_law_taken"] (spName K)) (mRange : mg "range" = none) (mList : mg "list" = none) : FnOk P w K mg base CX0 3 f fd ["_law_source_here", "_law_many"] spNames := by
  refine F.ok scNames (fun vs H Q E h => ?_) (fun cdv A outer s H vs Q E hr h => ?_)
  · obtain ⟨a, many, n, rfl, _⟩ := h
    rfl
  · obtain ⟨a, many, n, rfl, m16, S, k⟩ := h
    have hr_name := hr
    refine ⟨_, (pss_cons (ps_set (i := 2) scNames.nd rfl (by first | exact Or.inl rfl | exact Or.inr rfl) (pe_lst pa_nil))
      (pss_cons (ps_for PassesOwn.never rfl (pi_range1 (by rfl) mRange (pa_cons (pv 1) pa_nil)) (pg_name (i := 3) scNames.nd rfl (by first | exact Or.inl rfl | exact Or.inr rfl))
        (pss_one (ps_expr (pe_bm PySem.F.plainAttrs_list PySem.F.slot_list_append PySem.F.type_list_append mt_append (pv 2) (pa_cons (pe_cal c_name hr_name pass0 (pa_cons (pv 0) (pa_cons (pe_callTy (k_list K) (by rfl) mList (by decide +kernel) (pa_cons (pv 2) pa_nil)) pa_nil))) pa_nil)))))
      (pss_one (ps_ret (pv 2))))), ?_⟩
    refine ⟨(by show 0 ≤ sizeLine; decide), fun p hp => ⟨_, rfl, many, rfl, by omega, by omega, ?_⟩⟩
    refine for_range (lo := 0) (n := many) (fun i σ H' => ∃ (zs : List Str) (vk : Option V), σ = [some (.ref a), some (.int many), some (.ref p), vk] ∧ zs.length = i ∧ zs.Nodup ∧ (∀ z ∈ zs, IsName z) ∧ H' p = some (.lst (zs.map V.str)) ∧ Kp a H H' ∧ Src H' a (n + 10 * (many - i)))
      ⟨[], none, rfl, rfl, List.nodup_nil, (by simp), upd_same, Kp.new hp, S.new hp⟩ ?_ ?_
    · rintro i σ H1 hi ⟨zs, vk, rfl, hl, nd, nm, h1, k1, S1⟩
      have pa : p ≠ a := S.ne hp
      refine ⟨_, rfl, .inl ⟨rfl, _, .of h1⟩, _, rfl, _, rfl, p, _, rfl, .inl (.of h1), fun l hl' => ?_⟩
      refine ⟨a, l, zs, n + 10 * (many - (i + 1)), rfl, (S1.new hl').mono (by omega), S1.ne hl', .of upd_same, by omega, fun z H2 nz fz k2 S2 => ?_⟩
      have h2 : H2 p = some (.lst (zs.map V.str)) := k2 _ _ pa ((Same.new hl') _ _ h1)
      refine ⟨p, _, _, rfl, rfl, h2, ?_, ?_⟩
      · rw [List.length_map]
        exact Nat.lt_of_lt_of_le (by omega : zs.length < 16) (by decide)
      · refine ⟨zs ++ [z], _, rfl, by rw [List.length_append, hl]; rfl, ?_, fun y hy => ?_, by rw [upd_same, List.map_append]; rfl, ?_, S2.put pa⟩
        · exact List.nodup_append.mpr ⟨nd, List.nodup_cons.mpr ⟨by simp, List.nodup_nil⟩, fun y hy u hu e => fz (by rw [List.mem_singleton.mp hu] at e; exact e ▸ hy)⟩
        · rcases List.mem_append.mp hy with hy | hy
          · exact nm y hy
          · rw [List.mem_singleton.mp hy]; exact nz
        · exact ((k1.trans (Kp.new hl')).trans k2).mut hp
    · rintro σ H1 ⟨zs, vk, rfl, hl, nd, nm, h1, k1, S1⟩
      exact ⟨_, rfl, k p zs H1 hl nd nm hp h1 k1 (S1.mono (by omega))⟩
end
end Mf
namespace Mf
open PySem L2
section
variable {P : Program} {w : World} {K : PySem.W.Frag} {mg : Str → Option Value} {base : Heap} {Cp C : Addr}
/-! ### _law_step -/
def GoodS (ns : List Str) (s : Step) : Prop := stepB s.1 s.2 = true ∧ (s.1 ∈ calling → s.2 ∈ ns)
theorem atI_str {zs : List Str} {v : Int} (h0 : 0 ≤ v) (h : v < zs.length) : ∃ z ∈ zs, atI (zs.map V.str) v = some (.str z) := by
  obtain ⟨x, hx, e⟩ := atI_mem (xs := zs.map V.str) h0 (by rw [List.length_map]; exact h)
  obtain ⟨z, hz, rfl⟩ := List.mem_map.mp hx
  exact ⟨z, hz, e⟩
theorem Kp.free {a t : Addr} {H H' : Hp} {n m : Nat} (x : Kp a H H') (_S : Src H a n) (h : H' t = none) (S' : Src H' a m) : H t = none := by
  cases e : H t with
  | none => rfl
  | some o =>
    have q := x t o (S'.ne h) e
    rw [h] at q; cases q
def spStep : Sp := fun vs H Q _ => ∃ (a nl pl : Addr) (ns ps : List Str) (n : Nat), vs = [.ref a, .ref nl, .ref pl] ∧ Src H a (n + 12) ∧ H nl = some (.lst (ns.map V.str)) ∧ H pl = some (.lst (ps.map V.str)) ∧ ns ≠ [] ∧ (∀ z ∈ ns, IsName z) ∧ (∀ z ∈ ps, IsName z) ∧ ns.length ≤ 16 ∧ ps.length ≤ 16 ∧
  ∀ t s H', GoodS ns s → H t = none → H' t = some (.tup [.str s.1, .str s.2]) → Kp a H H' → Src H' a n → Q (.ref t) H'
abbrev sStep : Stmt := top 33
theorem scStep : FnScope ["_law_source_here", "_law_names_here", "_law_places", "_law_digit"] ["_law_source_here", "_law_names_here", "_law_places"] (defScope sStep) := ⟨rfl, rfl, rfl, by decide +kernel, rfl, by decide +kernel, by decide +kernel⟩
theorem kind_at {v : Int} (h0 : 0 ≤ v) : ∃ z ∈ calling, atI [V.str "call", .str "try", .str "call"] (v % 3) = some (.str z) := by
  have h1 : 0 ≤ v % 3 := Int.emod_nonneg _ (by decide)
  have h2 : v % 3 < 3 := Int.emod_lt_of_pos _ (by decide)
  have c : v % 3 = 0 ∨ v % 3 = 1 ∨ v % 3 = 2 := by omega
  rcases c with e | e | e <;> rw [e]
  · exact ⟨"call", by decide, by decide +kernel⟩
  · exact ⟨"try", by decide, by decide +kernel⟩
  · exact ⟨"call", by decide, by decide +kernel⟩
theorem calling_kinds : ∀ z ∈ calling, z ∈ kinds := by decide +kernel
theorem stepB_of {kd wd : Str} (h : kd ∈ kinds) (h2 : IsName wd) : stepB kd wd = true := by
  unfold stepB
  rw [decide_eq_true h, (nameB_iff wd).mpr h2]; rfl
theorem ok_step {f : Addr} {fd : FuncData} (F : Fun K "_law_step" "_law_step" sStep f fd) (c_draw : Cal P w K mg base CX0 1 "_law_draw" psD spDraw) (c_name : Cal P w K mg base CX0 2 "_law_name" ["_law_source_here", "_law_taken"] (spName K)) (mLen : mg "len" = none) (mInt : mg "int" = none) :
    FnOk P w K mg base CX0 3 f fd ["_law_source_here", "_law_names_here", "_law_places"] spStep := by
  refine F.ok scStep (fun vs H Q E h => ?_) (fun cdv A outer s H vs Q E hr h => ?_)
  · obtain ⟨a, nl, pl, ns, ps, n, rfl, _⟩ := h
    rfl
  · obtain ⟨a, nl, pl, ns, ps, n, rfl, S, hn, hp, ne, nmN, nmP, lN, lP, k⟩ := h
    have hr_draw := hr.mono (by decide : 1 ≤ 2); have hr_name := hr
    refine ⟨_, (pss_cons (ps_set (i := 3) scStep.nd rfl (by first | exact Or.inl rfl | exact Or.inr rfl) (pe_cal c_draw hr_draw pass0 (pa_cons (pv 0) (pa_cons pe_int pa_nil))))
      (C8.pss_cut (ps_if (PW.pt (pw_and (pt_cmpR op_lt (pv 3) pe_int (nomark _)) (pw_and1 (pt_cmpR op_gt (pe_callB (k_len K) (by rfl) mLen (by decide +kernel) (pa_cons (pv 2) pa_nil)) pe_int (nomark _)))))
        (pss_one (ps_ret (pe_tup (pa_cons pe_str (pa_cons (pe_ix (ixl K) (pv 2) (pe_cal c_draw hr_draw pass0 (pa_cons (pv 0) (pa_cons (pe_callB (k_len K) (by rfl) mLen (by decide +kernel) (pa_cons (pv 2) pa_nil)) pa_nil))) (fun _ _ => rfl)) pa_nil))))) pss_nil)
      (pss_cons (ps_if (pt_cmpR op_eq (pv 3) pe_int (nomark _))
        (pss_one (ps_ret (pe_tup (pa_cons pe_str (pa_cons (pe_cal c_name hr_name pass0 (pa_cons (pv 0) (pa_cons (pe_lst pa_nil) pa_nil))) pa_nil))))) pss_nil)
      (pss_one (ps_ret (pe_tup (pa_cons (pe_ix (ixl K) (pe_lst (pa_cons pe_str (pa_cons pe_str (pa_cons pe_str pa_nil)))) (pe_op op_mod (pe_callTy call_int1 (by rfl) mInt (by decide +kernel) (pa_cons (pv 3) pa_nil)) pe_int) (fun _ _ => rfl)) (pa_cons (pe_ix (ixl K) (pv 1) (pe_cal c_draw hr_draw pass0 (pa_cons (pv 0) (pa_cons (pe_callB (k_len K) (by rfl) mLen (by decide +kernel) (pa_cons (pv 1) pa_nil)) pa_nil))) (fun _ _ => rfl)) pa_nil)))))))), ?_⟩
    refine ⟨_, rfl, a, 9, n + 11, rfl, by decide, by decide, S, fun v H1 v0 v1 k1 S1 => ?_⟩
    have hn1 := k1 _ _ (strs_ne S hn) hn
    have hp1 := k1 _ _ (strs_ne S hp) hp
    -- the last tuple
    have fin : ∀ {H' : Hp} {kd wd : Str}, GoodS ns (kd, wd) → Kp a H H' → Src H' a n → ∀ t, H' t = none → Q (.ref t) (upd H' t (.tup [.str kd, .str wd])) := fun {H' kd wd} g kk S' t ht =>
      k t (kd, wd) _ g (kk.free S ht S') upd_same (kk.trans (Kp.new ht)) (S'.new ht)
    refine ⟨fun σ' H' => σ' = [some (.ref a), some (.ref nl), some (.ref pl), some (.int v)] ∧ H' = H1, ?_, ?_⟩
    · refine ⟨_, rfl, _, _, rfl, rfl, _, rfl, ite2 (fun _ => ?_) fun _ => ?_⟩
      · refine ⟨_, rfl, pl, _, rfl, .inl (.of hp1), _, _, rfl, rfl, _, rfl, ite2 (fun q => ?_) fun _ => ⟨rfl, rfl⟩⟩
        have lp : 0 < ps.length := by
          have q := of_decide_eq_true q
          rw [List.length_map] at q
          omega
        refine ⟨_, rfl, _, rfl, _, rfl, pl, _, rfl, .inl (.of hp1), a, _, n + 10, rfl, ?_, ?_, S1, fun u H2 u0 u1 k2 S2 => ?_⟩
        · rw [List.length_map]; omega
        · rw [List.length_map]
          exact Nat.lt_trans (by omega : _ < 17) (by decide)
        · rw [List.length_map] at u1
          obtain ⟨z, hz, e⟩ := atI_str u0 u1
          refine ⟨pl, _, u, _, rfl, rfl, .of (k2 _ _ (strs_ne S1 hp1) hp1), e, (by show 2 ≤ sizeLine; decide), fin ⟨stepB_of (show ("read" : Str) ∈ kinds by decide +kernel) (nmP z hz), fun h => absurd h (show ¬ ("read" : Str) ∈ calling by decide +kernel)⟩ (k1.trans k2) (S2.mono (by omega))⟩
      · exact ⟨rfl, rfl⟩
    · rintro σ' H' ⟨rfl, rfl⟩
      refine ⟨_, rfl, rfl, _, rfl, ite2 (fun _ => ?_) fun _ => ?_⟩
      · refine ⟨_, rfl, (by show 0 ≤ sizeLine; decide), fun l hl => ⟨a, l, [], n + 1, rfl, S1.new hl, S1.ne hl, .of upd_same, by decide, fun z H2 nz _ k2 S2 => ⟨(by show 2 ≤ sizeLine; decide), fin ⟨stepB_of (show ("say" : Str) ∈ kinds by decide +kernel) nz, fun h => absurd h (show ¬ ("say" : Str) ∈ calling by decide +kernel)⟩ ((k1.trans (Kp.new hl)).trans k2) (S2.mono (by omega))⟩⟩⟩
      · obtain ⟨kd, hk, ek⟩ := kind_at v0
        have ln : 0 < ns.length := List.length_pos_iff.mpr ne
        refine ⟨(by show 3 ≤ sizeLine; decide), fun l hl => ⟨_, rfl, .inl ⟨_, rfl, _, _, rfl, rfl, (by show (0 : Int) < 3; decide), l, _, _, _, rfl, rfl, .of upd_same, ek, ?_⟩⟩⟩
        have hn2 := (Same.new (o := .lst [.str "call", .str "try", .str "call"]) hl) _ _ hn1
        have S2 := S1.new (o := .lst [.str "call", .str "try", .str "call"]) hl
        refine ⟨_, rfl, _, rfl, _, rfl, nl, _, rfl, .inl (.of hn2), a, _, n + 10, rfl, ?_, ?_, S2, fun u H2 u0 u1 k2 S3 => ?_⟩
        · rw [List.length_map]; omega
        · rw [List.length_map]
          exact Nat.lt_trans (by omega : _ < 17) (by decide)
        · rw [List.length_map] at u1
          obtain ⟨z, hz, e⟩ := atI_str u0 u1
          exact ⟨nl, _, u, _, rfl, rfl, .of (k2 _ _ (strs_ne S2 hn2) hn2), e, (by show 2 ≤ sizeLine; decide), fin ⟨stepB_of (calling_kinds _ hk) (nmN z hz), fun _ => hz⟩ ((k1.trans (Kp.new hl)).trans k2) (S3.mono (by omega))⟩
end
end Mf
namespace Mf
open PySem L2
section
variable {P : Program} {w : World} {K : PySem.W.Frag} {mg : Str → Option Value} {base : Heap} {Cp C : Addr}
/-! ### a row of steps, drawn -/
theorem paired_mem {α β : Type} {R : α → β → Prop} {xs : List α} {ys : List β} (r : Paired R xs ys) : Paired (fun x y => R x y ∧ y ∈ ys) xs ys := by
  induction r with
  | nil => exact .nil
  | cons a _ ih => exact .cons ⟨a, List.mem_cons_self⟩ (paired_same ih fun _ _ q => ⟨q.1, List.mem_cons_of_mem _ q.2⟩)
theorem paired_app {α β : Type} {R : α → β → Prop} {xs xs' : List α} {ys ys' : List β} (r : Paired R xs ys) (r' : Paired R xs' ys') : Paired R (xs ++ xs') (ys ++ ys') := by
  induction r with
  | nil => exact r'
  | cons a _ ih => exact .cons a ih
theorem steps_lc {σ : L2.St} {H1 : Hp} {D : Addr} {Qd : Hp → Prop} {m n i x y : Nat} {vs : List Nat} {E : XK} {a nl pl : Addr} {ns ps : List Str}
    (e0 : ∀ v, ((wipe σ vs).set i (some v))[0]? = some (some (.ref a))) (ex : ∀ v, ((wipe σ vs).set i (some v))[x]? = some (some (.ref nl))) (ey : ∀ v, ((wipe σ vs).set i (some v))[y]? = some (some (.ref pl)))
    (ew : ∀ v, wipe ((wipe σ vs).set i (some v)) vs = wipe σ vs) (hD : H1 D = none) (S : Src H1 a (n + 12 * m)) (hn : H1 nl = some (.lst (ns.map V.str))) (hp : H1 pl = some (.lst (ps.map V.str))) (ne : ns ≠ []) (nmN : ∀ z ∈ ns, IsName z) (nmP : ∀ z ∈ ps, IsName z)
    (lN : ns.length ≤ 16) (lP : ps.length ≤ 16) (m12 : m ≤ 12)
    (k : ∀ ts ss H', ts.length = m → StA H' ts ss → (∀ s ∈ ss, GoodS ns s) → H' D = some (.lst (ts.map V.ref)) → Kp a H1 H' → Src H' a n → Qd H') :
    ∃ W : Nat → Nat → Hp → Prop, (∃ k, W 0 k (upd H1 D (.lst []))) ∧ ∀ j k H, W j k H → ((Itr 0 m).stop j H ∧ Qd H) ∨ ((Itr 0 m).go j H ∧ ∃ Nx : Hp → Prop, (∀ H', Nx H' → ∃ m', m' < k ∧ W (j + 1) m' H') ∧
      ∀ z H', (Itr 0 m).yld j H z H' → gName i z (wipe σ vs) H' fun σ2 H2 => wipe σ2 vs = wipe σ vs ∧ tYes σ2 H2 fun b H3 => if b = true then tCall spStep [] E (tCons (tVar 0) (tCons (tVar x) (tCons (tVar y) tNil))) σ2 H3 fun y H4 => ∃ acc, H4 D = some (.lst acc) ∧ acc.length < sizeLine ∧ Nx (upd H4 D (.lst (acc ++ [y]))) else Nx H3) := by
  have Da : D ≠ a := S.ne hD
  have nD : nl ≠ D := Ne.symm (ne_none hD hn)
  have pD : pl ≠ D := Ne.symm (ne_none hD hp)
  refine lc_range (lo := 0) (n := m) (fun i H' => ∃ (ts : List Addr) (ss : List Step), ts.length = i ∧ StA H' ts ss ∧ (∀ s ∈ ss, GoodS ns s) ∧ H' D = some (.lst (ts.map V.ref)) ∧ Kp a H1 H' ∧ Src H' a (n + 12 * (m - i))) ⟨[], [], rfl, .nil, (by simp), upd_same, Kp.new hD, S.new hD⟩ ?_ ?_
  · rintro j H2 hj ⟨ts, ss, lt, st, gd, h2, k2, S2⟩
    refine ⟨ew _, yes_then ?_⟩
    refine ⟨_, e0 _, _, ex _, _, ey _, a, nl, pl, ns, ps, n + 12 * (m - (j + 1)), rfl, S2.mono (by omega), k2 _ _ (strs_ne S hn) hn, k2 _ _ (strs_ne S hp) hp, ne, nmN, nmP, lN, lP, fun t s H3 gs nt ht k3 S3 => ?_⟩
    have h3 := k3 _ _ Da h2
    refine ⟨_, h3, ?_, ts ++ [t], ss ++ [s], by rw [List.length_append, lt]; rfl, ?_, fun z hz => ?_, by rw [upd_same, List.map_append]; rfl, (k2.trans k3).mut hD, S3.put Da⟩
    · rw [List.length_map, lt]; exact Nat.lt_of_lt_of_le (by omega : j < 12) (by decide)
    · have tD : t ≠ D := fun e => by rw [e, h2] at nt; cases nt
      refine paired_snoc (paired_same (st.sameN (k3.noL S2)) fun t s h => ?_) (by rw [upd_ne tD]; exact ht)
      rw [upd_ne (fun e => by rw [e, h3] at h; cases h)]; exact h
    · rcases List.mem_append.mp hz with hz | hz
      · exact gd z hz
      · rw [List.mem_singleton.mp hz]; exact gs
  · rintro H2 ⟨ts, ss, lt, st, gd, h2, k2, S2⟩
    exact k ts ss H2 lt st gd h2 k2 (S2.mono (by omega))

/-! ### _law_program, _law_any_program -/
/-- a procedure in a list of the law's own -/
def PrL (H : Hp) (p : Addr) (r : Pr) : Prop := H p = some (.tup [.str r.name, .ref r.b]) ∧ H r.b = some (.lst (r.ts.map V.ref)) ∧ StA H r.ts r.ss
def LisP (H : Hp) (a : Addr) (ps : List Addr) (rs : List Pr) : Prop := H a = some (.lst (ps.map V.ref)) ∧ Paired (PrL H) ps rs
theorem PrL.same {H H' : Hp} {p : Addr} {r : Pr} (x : PrL H p r) (h : Same H H') : PrL H' p r := ⟨h _ _ x.1, h _ _ x.2.1, x.2.2.same h⟩
theorem PrL.kp {H H' : Hp} {p a : Addr} {r : Pr} {n : Nat} (x : PrL H p r) (h : Kp a H H') (S : Src H a n) : PrL H' p r := ⟨h.noL S _ _ noL_tup x.1, h _ _ (refs_ne S x.2.1) x.2.1, x.2.2.sameN (h.noL S)⟩
theorem LisP.same {H H' : Hp} {a : Addr} {ps : List Addr} {rs : List Pr} (x : LisP H a ps rs) (h : Same H H') : LisP H' a ps rs := ⟨h _ _ x.1, paired_same x.2 fun _ _ q => q.same h⟩
theorem LisP.kp {H H' : Hp} {a b : Addr} {ps : List Addr} {rs : List Pr} {n : Nat} (x : LisP H a ps rs) (h : Kp b H H') (S : Src H b n) : LisP H' a ps rs := ⟨h _ _ (refs_ne S x.1) x.1, paired_same x.2 fun _ _ q => q.kp h S⟩
/-- a list at p changes, that is no body here -/
theorem PrL.put {H : Hp} {p q : Addr} {r : Pr} {o : HO} {xs : List V} (x : PrL H q r) (h : H p = some (.lst xs)) (n : r.b ≠ p) : PrL (upd H p o) q r :=
  ⟨by rw [upd_ne (fun e => by have := x.1; rw [e, h] at this; cases this)]; exact x.1, by rw [upd_ne n]; exact x.2.1, x.2.2.sameN (SameN.refl.put h)⟩
theorem rightP_of {rs : List Pr} {ns : List Str} (e : rs.map Pr.name = ns) (nd : ns.Nodup) (l : ns.length ≤ 16) (ne : ns ≠ []) (nm : ∀ z ∈ ns, IsName z) (b : ∀ r ∈ rs, r.ss.length ≤ 12 ∧ ∀ s ∈ r.ss, GoodS ns s) : RightP rs := by
  subst e
  refine ⟨by simpa using l, fun e => ne (by rw [e]; rfl), nd, fun r hr => ⟨nm _ (List.mem_map.mpr ⟨r, hr, rfl⟩), ?_, fun s hs => Nat.le_trans (stepB_name ((b r hr).2 s hs).1).len (by decide)⟩, fun r hr s hs => ((b r hr).2 s hs).2⟩
  unfold bodyB
  rw [decide_eq_true (b r hr).1, Bool.true_and]
  exact List.all_eq_true.mpr fun s hs => ((b r hr).2 s hs).1
def spProgram : Sp := fun vs H Q _ => ∃ (a : Addr) (most : Int) (n : Nat), vs = [.ref a, .int most] ∧ 1 ≤ most ∧ most ≤ 6 ∧ Src H a (n + 1000) ∧ ∀ p ps rs H', LisP H' p ps rs → RightP rs → rs.length ≤ 6 → H p = none → (∀ r ∈ rs, H r.b = none) → Kp a H H' → Src H' a n → Q (.ref p) H'
abbrev sProgram : Stmt := top 34
theorem scProgram : FnScope ["_law_source_here", "_law_most", "_law_many", "_law_names_here", "_law_places", "_law_ring", "_law_procedures", "_law_k", "_law_body_here", "_law_step_here"] ["_law_source_here", "_law_most"] (defScope sProgram) := ⟨rfl, rfl, rfl, by decide +kernel, rfl, by decide +kernel, by decide +kernel⟩
set_option maxHeartbeats 1000000 in
theorem ok_program {f : Addr} {fd : FuncData} (F : Fun K "_law_program" "_law_program" sProgram f fd) (c_draw : Cal P w K mg base CX0 1 "_law_draw" psD spDraw) (c_names : Cal P w K mg base CX0 3 "_law_names" ["_law_source_here", "_law_many"] spNames)
    (c_step : Cal P w K mg base CX0 3 "_law_step" ["_law_source_here", "_law_names_here", "_law_places"] spStep) (mRange : mg "range" = none) (mInt : mg "int" = none) :
    FnOk P w K mg base CX0 4 f fd ["_law_source_here", "_law_most"] spProgram := by
  refine F.ok scProgram (fun vs H Q E h => ?_) (fun cdv A outer s H vs Q E hr h => ?_)
  · obtain ⟨a, most, n, rfl, _⟩ := h
    rfl
  · obtain ⟨a, most, n, rfl, m1, m6, S, k⟩ := h
    have hr_draw := hr.mono (by decide : 1 ≤ 3); have hr_names := hr; have hr_step := hr
    refine ⟨_, (pss_cons (ps_set (i := 2) scProgram.nd rfl (by first | exact Or.inl rfl | exact Or.inr rfl) (pe_op op_add pe_int (pe_cal c_draw hr_draw pass0 (pa_cons (pv 0) (pa_cons (pv 1) pa_nil)))))
      (pss_cons (ps_set (i := 3) scProgram.nd rfl (by first | exact Or.inl rfl | exact Or.inr rfl) (pe_cal c_names hr_names pass0 (pa_cons (pv 0) (pa_cons (pv 2) pa_nil))))
      (pss_cons (ps_set (i := 4) scProgram.nd rfl (by first | exact Or.inl rfl | exact Or.inr rfl) (pe_cal c_names hr_names pass0 (pa_cons (pv 0) (pa_cons (pe_cal c_draw hr_draw pass0 (pa_cons (pv 0) (pa_cons pe_int pa_nil))) pa_nil))))
      (pss_cons (ps_set (i := 5) scProgram.nd rfl (by first | exact Or.inl rfl | exact Or.inr rfl) (pe_cal c_draw hr_draw pass0 (pa_cons (pv 0) (pa_cons pe_int pa_nil))))
      (pss_cons (ps_set (i := 6) scProgram.nd rfl (by first | exact Or.inl rfl | exact Or.inr rfl) (pe_lst pa_nil))
      (pss_cons (ps_for PassesOwn.never rfl (pi_range1 (by rfl) mRange (pa_cons (pv 2) pa_nil)) (pg_name (i := 7) scProgram.nd rfl (by first | exact Or.inl rfl | exact Or.inr rfl))
        (pss_cons (ps_setLc (i := 8) (own := [("_law_step_here", 9)]) (g := (gName 9)) (tt := tYes) rfl scProgram.nd rfl rfl (sw_true rfl rfl rfl (by decide +kernel)) (pi_range1 (by rfl) mRange (pa_cons (pe_cal c_draw hr_draw pass0 (pa_cons (pv 0) (pa_cons pe_int pa_nil))) pa_nil)) (blkOk_by (own := [("_law_step_here", 9)]) (N := ["_law_source_here", "_law_most", "_law_many", "_law_names_here", "_law_places", "_law_ring", "_law_procedures", "_law_k", "_law_body_here", "_law_step_here"]) (sc := defScope sProgram) (by decide +kernel)) (fun _ _ _ _ _ => (pg_name (i := 9) scProgram.nd rfl (by first | exact Or.inl rfl | exact Or.inr rfl))) (fun _ _ _ _ _ => pts_nil) (fun _ _ _ _ _ => (pe_cal c_step hr_step pass0 (pa_cons (pv 0) (pa_cons (pv 3) (pa_cons (pv 4) pa_nil))))))
        (C8.pss_cut (ps_if (pt_cmpR op_eq (pv 5) pe_int (nomark _))
          (pss_cons (ps_expr (pe_bm PySem.F.plainAttrs_list PySem.F.slot_list_append PySem.F.type_list_append mt_append (pv 8) (pa_cons (pe_tup (pa_cons pe_str (pa_cons (pe_ix (ixl K) (pv 3) (pe_op op_mod (pe_callTy call_int1 (by rfl) mInt (by decide +kernel) (pa_cons (pe_op op_add (pv 7) pe_int) pa_nil)) (pv 2)) (fun _ _ => rfl)) pa_nil))) pa_nil)))
          (pss_one (ps_expr (pe_bm PySem.F.plainAttrs_list PySem.F.slot_list_extend PySem.F.type_list_extend mt_extend (pv 8) (pa_cons (pe_lc (own := [("_law_step_here", 9)]) (g := (gName 9)) (tt := tYes) rfl scProgram.nd (pi_range1 (by rfl) mRange (pa_cons (pe_cal c_draw hr_draw pass0 (pa_cons (pv 0) (pa_cons pe_int pa_nil))) pa_nil)) (blkOk_by (own := [("_law_step_here", 9)]) (N := ["_law_source_here", "_law_most", "_law_many", "_law_names_here", "_law_places", "_law_ring", "_law_procedures", "_law_k", "_law_body_here", "_law_step_here"]) (sc := defScope sProgram) (by decide +kernel)) (fun _ _ _ _ _ => (pg_name (i := 9) scProgram.nd rfl (by first | exact Or.inl rfl | exact Or.inr rfl))) (fun _ _ _ _ _ => pts_nil) (fun _ _ _ _ _ => (pe_cal c_step hr_step pass0 (pa_cons (pv 0) (pa_cons (pv 3) (pa_cons (pv 4) pa_nil)))))) pa_nil))))) pss_nil)
        (pss_one (ps_expr (pe_bm PySem.F.plainAttrs_list PySem.F.slot_list_append PySem.F.type_list_append mt_append (pv 6) (pa_cons (pe_tup (pa_cons (pe_ix (ixl K) (pv 3) (pv 7) (fun _ _ => rfl)) (pa_cons (pv 8) pa_nil))) pa_nil)))))))
      (pss_one (ps_ret (pv 6))))))))), ?_⟩
    refine ⟨_, rfl, _, rfl, a, most, n + 999, rfl, by omega, (Nat.lt_trans (by omega : most.natAbs < 7) (by decide)), S, fun v H1 v0 v1 k1 S1 => ⟨_, _, rfl, rfl, ?_⟩⟩
    obtain ⟨many, em⟩ : ∃ many : Nat, 1 + v = (many : Int) := ⟨(1 + v).toNat, by omega⟩
    show gName 2 (.int (1 + v)) _ _ _
    rw [em]
    have ml : 1 ≤ many ∧ many ≤ 6 := by omega
    refine ⟨_, rfl, _, rfl, a, many, n + 900, rfl, by omega, S1.mono (by omega), fun nl ns H2 lns nd nm nnl h2 k2 S2 => ?_⟩
    refine ⟨_, rfl, _, rfl, a, 4, n + 899, rfl, by decide, by decide, S2, fun u H3 u0 u1 k3 S3 => ?_⟩
    obtain ⟨pm, ep⟩ : ∃ pm : Nat, u = (pm : Int) := ⟨u.toNat, by omega⟩
    subst ep
    refine ⟨a, pm, n + 800, rfl, by omega, S3.mono (by omega), fun pl ps H4 lps ndp nmp npl h4 k4 S4 => ?_⟩
    refine ⟨_, rfl, a, 3, n + 799, rfl, by decide, by decide, S4, fun ring H5 r0 r1 k5 S5 => ?_⟩
    refine ⟨(by show 0 ≤ sizeLine; decide), fun p np => ?_⟩
    have hn5 : H5 nl = some (.lst (ns.map V.str)) := k5 _ _ (strs_ne S4 (k4 _ _ (strs_ne S3 (k3 _ _ (strs_ne S2 h2) h2)) (k3 _ _ (strs_ne S2 h2) h2))) (k4 _ _ (strs_ne S3 (k3 _ _ (strs_ne S2 h2) h2)) (k3 _ _ (strs_ne S2 h2) h2))
    have hp5 : H5 pl = some (.lst (ps.map V.str)) := k5 _ _ (strs_ne S4 h4) h4
    have k05 : Kp a H H5 := (((k1.trans k2).trans k3).trans k4).trans k5
    have np0 : H p = none := k05.free S np S5
    have pa : p ≠ a := S5.ne np
    have ne : ns ≠ [] := fun e => by rw [e] at lns; simp at lns; omega
    refine ⟨_, rfl, (many : Int), rfl, by omega, by omega, ?_⟩
    refine for_range (lo := 0) (n := many) (fun i σ H' => ∃ (qs : List Addr) (rs : List Pr) (vk vb vs : Option V), σ = [some (.ref a), some (.int most), some (.int many), some (.ref nl), some (.ref pl), some (.int ring), some (.ref p), vk, vb, vs] ∧ rs.map Pr.name = ns.take i ∧
        H' p = some (.lst (qs.map V.ref)) ∧ Paired (PrL H') qs rs ∧ (∀ r ∈ rs, r.b ≠ p ∧ H r.b = none ∧ r.ss.length ≤ 12 ∧ ∀ s ∈ r.ss, GoodS ns s) ∧ Kp a H H' ∧ H' nl = some (.lst (ns.map V.str)) ∧ H' pl = some (.lst (ps.map V.str)) ∧ Src H' a (n + 100 * (many - i)) ∧ qs.length = i)
      ⟨[], [], none, none, none, rfl, rfl, upd_same, .nil, (by simp), k05.trans (Kp.new np), by rw [upd_ne (Ne.symm (ne_none np hn5))]; exact hn5, by rw [upd_ne (Ne.symm (ne_none np hp5))]; exact hp5, (S5.new np).mono (by omega), rfl⟩ ?_ ?_
    · rintro i σ H6 hi ⟨qs, rs, vk, vb, vs, rfl, en, hP, pr, gd, k6, hn, hq, S6, lq⟩
      refine ⟨_, rfl, a, 4, n + 100 * (many - (i + 1)) + 90, rfl, by decide, by decide, S6.mono (by omega), fun u H7 u0 u1 k7 S7 => ?_⟩
      refine ⟨u, rfl, by omega, by omega, fun D hD => ?_⟩
      have hn7 := k7 _ _ (strs_ne S6 hn) hn
      have hq7 := k7 _ _ (strs_ne S6 hq) hq
      have hP7 := k7 _ _ pa hP
      have pr7 : Paired (PrL H7) qs rs := paired_same pr fun _ _ q => q.kp k7 S6
      have nD : H D = none := (k6.trans k7).free S hD S7
      have Dp : D ≠ p := ne_none hD hP7
      have Da : D ≠ a := S7.ne hD
      refine steps_lc (i := 9) (x := 3) (y := 4) (n := n + 100 * (many - (i + 1)) + 50) (m := u.toNat) (fun _ => rfl) (fun _ => rfl) (fun _ => rfl) (fun _ => rfl) hD (S7.mono (by omega)) hn7 hq7 ne nm nmp (by omega) (by omega) (by omega) fun ts ss H8 lt st gs h8 k8 S8 => ?_
      have hn8 := k8 _ _ (strs_ne S7 hn7) hn7
      have hq8 := k8 _ _ (strs_ne S7 hq7) hq7
      have hP8 := k8 _ _ pa hP7
      have pr8 : Paired (PrL H8) qs rs := paired_same pr7 fun _ _ q => q.kp k8 S7
      -- behind the ring's steps
      refine ⟨fun σ' H' => ∃ (ts : List Addr) (ss : List Step) (vs : Option V), σ' = [some (.ref a), some (.int most), some (.int many), some (.ref nl), some (.ref pl), some (.int ring), some (.ref p), some (.int (0 + (i : Nat))), some (.ref D), vs] ∧ ss.length ≤ 12 ∧ StA H' ts ss ∧ (∀ s ∈ ss, GoodS ns s) ∧
        H' D = some (.lst (ts.map V.ref)) ∧ Kp a H7 H' ∧ Src H' a (n + 100 * (many - (i + 1))), ?_, ?_⟩
      · have ls : ss.length ≤ 3 := by have := Paired.length st; omega
        refine ⟨_, rfl, rfl, _, rfl, ite2 (fun _ => ?_) fun _ => ⟨ts, ss, vs, rfl, by omega, st, gs, h8, k8, S8.mono (by omega)⟩⟩
        have hm : ((0 + (i : Nat) + 1 : Int) % (many : Int)) = (((i + 1) % many : Nat) : Int) := by
          rw [show (0 + (i : Nat) + 1 : Int) = ((i + 1 : Nat) : Int) by omega]
          rfl
        have hlt : (i + 1) % many < ns.length := by rw [lns]; exact Nat.mod_lt _ (by omega)
        obtain ⟨z, hz, ez⟩ := atI_str (zs := ns) (v := ((i + 1) % many : Nat)) (by omega) (by omega)
        refine ⟨_, rfl, .inl ⟨rfl, _, .of h8⟩, _, rfl, _, rfl, _, _, rfl, rfl, .inl ⟨_, rfl, _, rfl, _, _, rfl, rfl, by omega, nl, _, _, _, rfl, rfl, .of hn8, (by rw [hm]; exact ez), (by show 2 ≤ sizeLine; decide), fun t ht => ?_⟩⟩
        have h8t := (Same.new (o := .tup [.str "call", .str z]) ht) _ _ h8
        have S8t := S8.new (o := .tup [.str "call", .str z]) ht
        have k8t := k8.trans (Kp.new (o := .tup [.str "call", .str z]) ht)
        have stt : StA (upd H8 t (.tup [.str "call", .str z])) (ts ++ [t]) (ss ++ [((("call" : Str), z) : Step)]) := paired_snoc (st.same (Same.new ht)) upd_same
        have gst : ∀ s ∈ ss ++ [((("call" : Str), z) : Step)], GoodS ns s := fun s hs => by
          rcases List.mem_append.mp hs with hs | hs
          · exact gs s hs
          · rw [List.mem_singleton.mp hs]; exact ⟨stepB_of (show ("call" : Str) ∈ kinds by decide +kernel) (nm z hz), fun _ => hz⟩
        have hn8t := (Same.new (o := .tup [.str "call", .str z]) ht) _ _ hn8
        have hq8t := (Same.new (o := .tup [.str "call", .str z]) ht) _ _ hq8
        generalize upd H8 t (.tup [.str "call", .str z]) = H9 at h8t S8t k8t stt hn8t hq8t
        refine ⟨D, _, _, rfl, rfl, h8t, ?_, ?_⟩
        · rw [List.length_map, lt]; exact Nat.lt_of_lt_of_le (by omega : u.toNat < 12) (by decide)
        have hDA : (upd H9 D (.lst (ts.map V.ref ++ [.ref t]))) D = some (.lst ((ts ++ [t]).map V.ref)) := by rw [upd_same, List.map_append]; rfl
        have kA : Kp a H7 (upd H9 D (.lst (ts.map V.ref ++ [.ref t]))) := k8t.mut hD
        have SA : Src (upd H9 D (.lst (ts.map V.ref ++ [.ref t]))) a (n + 100 * (many - (i + 1)) + 50) := S8t.put Da
        have stA : StA (upd H9 D (.lst (ts.map V.ref ++ [.ref t]))) (ts ++ [t]) (ss ++ [((("call" : Str), z) : Step)]) := stt.sameN (SameN.refl.put h8t)
        have hnA : (upd H9 D (.lst (ts.map V.ref ++ [.ref t]))) nl = some (.lst (ns.map V.str)) := by rw [upd_ne (Ne.symm (ne_none hD hn7))]; exact hn8t
        have hqA : (upd H9 D (.lst (ts.map V.ref ++ [.ref t]))) pl = some (.lst (ps.map V.str)) := by rw [upd_ne (Ne.symm (ne_none hD hq7))]; exact hq8t
        generalize upd H9 D (.lst (ts.map V.ref ++ [.ref t])) = HA at hDA kA SA stA hnA hqA
        refine ⟨_, rfl, .inl ⟨rfl, _, .of hDA⟩, _, rfl, a, 3, n + 100 * (many - (i + 1)) + 49, rfl, by decide, by decide, SA, fun u2 HB u20 u21 kB SB => ⟨u2, rfl, by omega, by omega, fun D2 hD2 => ?_⟩⟩
        have hnB := kB _ _ (strs_ne SA hnA) hnA
        have hqB := kB _ _ (strs_ne SA hqA) hqA
        have hDB := kB _ _ Da hDA
        refine steps_lc (i := 9) (x := 3) (y := 4) (n := n + 100 * (many - (i + 1))) (m := u2.toNat) (fun _ => rfl) (fun _ => rfl) (fun _ => rfl) (fun _ => rfl) hD2 (SB.mono (by omega)) hnB hqB ne nm nmp (by omega) (by omega) (by omega) fun ts2 ss2 HC lt2 st2 gs2 hC kC SC => ?_
        have hDC := kC _ _ Da hDB
        have stC : StA HC (ts ++ [t]) (ss ++ [((("call" : Str), z) : Step)]) := (stA.sameN (kB.noL SA)).sameN (kC.noL SB)
        refine ⟨D, _, _, _, rfl, rfl, hDC, hC, ?_, ?_⟩
        · rw [List.length_map, List.length_map, List.length_append, lt, lt2]
          exact Nat.le_trans (by show _ + 1 + _ ≤ 12; omega) (by decide)
        refine ⟨ts ++ [t] ++ ts2, ss ++ [((("call" : Str), z) : Step)] ++ ss2, _, rfl, ?_, ?_, fun s hs => ?_, ?_, ((kA.trans kB).trans kC).mut hD, SC.put Da⟩
        · have l2 := Paired.length st2
          rw [List.length_append, List.length_append]
          show _ + 1 + _ ≤ 12
          omega
        · exact StA.sameN (paired_app stC st2) (SameN.refl.put hDC)
        · rcases List.mem_append.mp hs with hs | hs
          · exact gst s hs
          · exact gs2 s hs
        · rw [upd_same, List.map_append (l₂ := ts2)]
      · rintro σ' H9 ⟨ts, ss, vs, rfl, ls, st, gs, h9, k9, S9⟩
        have hn9 := k9 _ _ (strs_ne S7 hn7) hn7
        have hP9 := k9 _ _ pa hP7
        have pr9 : Paired (PrL H9) qs rs := paired_same pr7 fun _ _ q => q.kp k9 S7
        have hz : ns[i]? = some ns[i] := List.getElem?_eq_getElem (by omega)
        refine ⟨_, rfl, .inl ⟨rfl, _, .of hP9⟩, _, rfl, _, rfl, nl, _, _, _, rfl, rfl, .of hn9, (by rw [show (0 + (i : Nat) : Int) = ((i : Nat) : Int) by omega]; exact atI_nat (by rw [List.getElem?_map, hz]; rfl)), _, rfl, (by show 2 ≤ sizeLine; decide), fun t ht => ?_⟩
        have s9 := Same.new (o := .tup [.str ns[i], .ref D]) ht
        refine ⟨p, _, _, rfl, rfl, s9 _ _ hP9, ?_, qs ++ [t], rs ++ [⟨ns[i], D, ts, ss⟩], _, _, _, rfl, ?_, by rw [upd_same, List.map_append]; rfl, ?_, fun r hr => ?_, ?_, ?_, ?_, (S9.new ht).put pa, by rw [List.length_append, lq]; rfl⟩
        · rw [List.length_map, lq]; exact Nat.lt_of_lt_of_le (by omega : i < 12) (by decide)
        · rw [List.map_append, en, List.take_add_one, hz]; rfl
        · refine paired_snoc ?_ ⟨?_, ?_, ?_⟩
          · have pr9' : Paired (fun q r => PrL H9 q r ∧ r ∈ rs) qs rs := paired_mem pr9
            exact paired_same pr9' fun q r hqr => (hqr.1.same s9).put (s9 _ _ hP9) (gd r hqr.2).1
          · rw [upd_ne (ne_none ht hP9)]; exact upd_same
          · rw [upd_ne Dp]; exact s9 _ _ h9
          · exact (st.same s9).sameN (SameN.refl.put (s9 _ _ hP9))
        · rcases List.mem_append.mp hr with hr | hr
          · exact gd r hr
          · rw [List.mem_singleton.mp hr]; exact ⟨Dp, nD, ls, gs⟩
        · exact ((((k6.trans k7).trans k9).trans (Kp.new ht)).mut np0)
        · rw [upd_ne (Ne.symm (ne_none np hn5))]; exact s9 _ _ hn9
        · rw [upd_ne (Ne.symm (ne_none np hp5))]; exact s9 _ _ (k9 _ _ (strs_ne S7 hq7) hq7)
    · rintro σ H6 ⟨qs, rs, vk, vb, vs, rfl, en, hP, pr, gd, k6, hn, hq, S6, lq⟩
      rw [← lns, List.take_length] at en
      exact ⟨_, rfl, k p qs rs H6 ⟨hP, pr⟩ (rightP_of en nd (by omega) ne nm fun r hr => (gd r hr).2.2) (by have := congrArg List.length en; rw [List.length_map] at this; omega) np0 (fun r hr => (gd r hr).2.1) k6 (S6.mono (by omega))⟩
end
end Mf
/-! sorted(xs) of a list of texts of any length. -/
namespace Mf
open PySem PySem.Spec PyProof.Rows L2
section
variable {P : Program} {w : World} {A : Around} {E : Value → Shared → Prop} {s : Shared}
theorem sorted_lst {a : Addr} {its : List Value} {xs : List Str} {Q : Value → Shared → Prop} (hl : s.heap.IsList a its.toArray) (hS : StrsAre its xs) (few : its.length ≤ sizeLine)
    (hQ : ∀ (h' : Heap) (s' : Shared) p (out : Array Value) (c : Nat) (ys : List Str), (∀ b o, s.heap.get? b = some o → h'.get? b = some o) → (∀ b (o : Obj), h'.get? b = some o → s'.heap.get? b = some o) → s'.gens = s.gens → s'.os = s.os → h'.objs.size ≤ p →
      s'.heap.get? p = some (seqObj "list" out c) → StrsAre out.toList ys → sortedS ys = true → ys.Perm xs → Q (.ref p) s') :
    wpAny (model P w) A (call (.builtin "sorted") [.ref a]) Q E s := by
  refine Calls.call_function_entry kind_sorted plain_sorted entry_sorted (args_sorted1 _) ?_
  unfold Builtin.«sorted»
  refine wpAny_bind (m := checkCount "sorted" 1 1 _) (wpAny_pure ?_)
  obtain ⟨o, ho, hc, n, hd⟩ := hl
  refine wpAny_bind (wpAny_collect_seq (hsz := by simpa using few) a (.inl rfl) ho hc hd fun h' hk => ?_)
  have len := (strs_val hS).1
  have el : its.toArray.toList = its := by simp
  rw [el]
  refine wpAny_bind (wpAny_newList ?_ few)
  have hoL : (h'.push (seqObj "list" its.toArray 0)).get? h'.objs.size = some (seqObj "list" its.toArray 0) := Heap.get?_push_size _ rfl
  refine wpAny_bind (wpAny_holding (wpAny_call_entry slot_list_sort ⟨_, hoL, rfl⟩ entry_list_sort (list_sort_treeKAny strKind_oneLt hoL hS.keysOf (fun v₁ v₂ rest e => keyKind_strs (by rw [← e]; exact hS)) few fun st' hp hs => ⟨_, rfl, ?_⟩) (args_list_sort _)))
  obtain ⟨ys, g1', g2, g3⟩ := sorted_out_str hS hp hs
  obtain ⟨c, hc⟩ := sortedHeap_at (vs := its) (out := (arrOf st').map (·.2)) hoL
  refine wpAny_pure ⟨_, rfl, hQ h' _ h'.objs.size _ c ys hk (fun b u q => ?_) rfl rfl (Nat.le_refl _) hc g1' g3 g2⟩
  have lt := Heap.lt_size q
  show (sortedHeap (h'.push (seqObj "list" its.toArray 0)) h'.objs.size its _).get? b = some u
  rw [sortedHeap_old (Nat.ne_of_lt lt) (by rw [size_push']; exact Nat.lt_succ_of_lt lt)]
  exact Heap.get?_push_of_some _ q
end
section
variable {X : Cx}
/-- sorted(xs) of a list of texts -/
def rSortedL (K : PySem.W.Frag) : List V → Hp → VK → Prop := fun vs H Q => ∃ (a : Addr) (xs : List Str), vs = [V.ref a] ∧ SqL K H a (xs.map V.str) ∧
  ∀ (ys : List Str) (p : Addr), ys.Perm xs → sortedS ys = true → H p = none → Q (.ref p) (upd H p (.lst (ys.map V.str)))
theorem cr_sortedL : CallR X (.builtin "sorted") (rSortedL X.K) := by
  intro pins s σ H vs us Q I r h
  obtain ⟨a, xs, rfl, hs, q⟩ := h
  obtain ⟨its, rv, hl, hz⟩ := I.list hs
  rw [Vals.ref1 r]
  have hlen0 := rv.length
  rw [List.length_map] at hlen0
  rw [List.length_map] at hz
  refine sorted_lst hl.isList rv.strs (by rw [← hlen0]; exact hz) fun h' s' p out c ys k0 k g o hp hg hS so pm => ?_
  have I1 := I.kept (t' := s.toks) k0
  have hn : H p = none := I1.hok.fresh hp
  have few : (ys.map V.str).length ≤ sizeLine := by rw [List.length_map, pm.length_eq]; exact hz
  have J : Inv X pins σ (upd H p (.lst (ys.map V.str))) { ({ s with heap := h' } : Shared) with heap := s'.heap, gens := s'.gens, drawn := s'.drawn, toks := s'.toks } :=
    I1.call (ch := []) (Un.laid k hp hn) (I1.hok.laid k hp ⟨few, out.toList, c, vals_of_strs hS, hg⟩) (by rw [g]; exact I.bare) fun _ z => nomatch z
  have e : s' = { s with heap := s'.heap, gens := s'.gens, drawn := s'.drawn, toks := s'.toks } := by
    rcases s' with ⟨_, _, _, _, _⟩
    cases o
    rfl
  rw [e]
  exact ⟨.ref p, _, J, rfl, q ys p pm so hn⟩
theorem k_sortedL (K : PySem.W.Frag) (h : X.K = K := by rfl) : CallR X (.builtin "sorted") (rSortedL K) := h ▸ cr_sortedL
end
end Mf
namespace Mf
open PySem L2
section
variable {P : Program} {w : World} {K : PySem.W.Frag} {mg : Str → Option Value} {base : Heap} {Cp C : Addr}
/-! ### _law_copy -/
theorem pls_snoc {rs : List Pr} {r : Pr} : pls (rs ++ [r]) = pls rs ++ [(r.name, r.ss)] := by unfold pls; rw [List.map_append]; rfl
theorem pls_take {rs : List Pr} {i : Nat} : pls (rs.take i) = (pls rs).take i := by unfold pls; rw [List.map_take]
def readsC (x : List Pc) : List Str := (x.map fun r => readsIn r.2).flatten
theorem readsOf_pls (rs : List Pr) : readsOf rs = readsC (pls rs) := by unfold readsOf readsC pls; rw [List.map_map]; rfl
theorem pls_mem {rs : List Pr} {r : Pr} (h : r ∈ rs) : (r.name, r.ss) ∈ pls rs := List.mem_map.mpr ⟨r, h, rfl⟩
theorem rightP_pls {rs es : List Pr} (e : pls es = pls rs) (R : RightP rs) : RightP es := by
  have l : es.length = rs.length := by have := congrArg List.length e; simpa [pls] using this
  have n : es.map Pr.name = rs.map Pr.name := by rw [← pls_names, ← pls_names, e]
  have back : ∀ r ∈ es, ∃ q ∈ rs, q.name = r.name ∧ q.ss = r.ss := fun r hr => by
    have m := pls_mem hr
    rw [e] at m
    obtain ⟨q, hq, he⟩ := List.mem_map.mp m
    exact ⟨q, hq, congrArg Prod.fst he, congrArg Prod.snd he⟩
  refine ⟨by rw [l]; exact R.few, fun z => R.ne (List.length_eq_zero_iff.mp (by rw [← l, z]; rfl)), by rw [n]; exact R.nd, fun r hr => ?_, fun r hr s hs hc => ?_⟩
  · obtain ⟨q, hq, h1, h2⟩ := back r hr
    have := R.ri q hq
    unfold Right at this ⊢
    rw [← h1, ← h2]; exact this
  · obtain ⟨q, hq, h1, h2⟩ := back r hr
    rw [n]
    exact R.ca q hq s (by rw [h2]; exact hs) hc
theorem paired_has {α β : Type} {R : α → β → Prop} {xs : List α} {ys : List β} (r : Paired R xs ys) {y : β} (h : y ∈ ys) : ∃ x, R x y := by
  induction r with
  | nil => cases h
  | cons a _ ih =>
    rcases List.mem_cons.mp h with q | q
    · exact ⟨_, q ▸ a⟩
    · exact ih q
def spCopy : Sp := fun vs H Q _ => ∃ (a : Addr) (ps : List Addr) (rs : List Pr), vs = [.ref a] ∧ LisP H a ps rs ∧ rs.length ≤ 16 ∧
  ∀ q qs es H', LisP H' q qs es → pls es = pls rs → H q = none → (∀ r ∈ es, H r.b = none ∧ r.b ≠ q) → (es.map Pr.b).Nodup → Same H H' → Q (.ref q) H'
abbrev sCopy : Stmt := top 35
theorem scCopy : FnScope ["_law_procedures", "_law_name_here", "_law_body_here"] ["_law_procedures"] (defScope sCopy) := ⟨rfl, rfl, rfl, by decide +kernel, rfl, by decide +kernel, by decide +kernel⟩
theorem ok_copy {f : Addr} {fd : FuncData} (F : Fun K "_law_copy" "_law_copy" sCopy f fd) (mList : mg "list" = none) : FnOk P w K mg base CX0 1 f fd ["_law_procedures"] spCopy := by
  refine F.ok scCopy (fun vs H Q E h => ?_) (fun cdv A outer s H vs Q E hr h => ?_)
  · obtain ⟨a, ps, rs, rfl, _⟩ := h
    rfl
  · obtain ⟨a, ps, rs, rfl, L, few, k⟩ := h
    have lpr : ps.length = rs.length := Paired.length L.2
    refine ⟨_, (pss_one (ps_ret (pe_lc (own := [("_law_name_here", 1), ("_law_body_here", 2)]) (g := (gTup K 2 (gCons (gName 1) (gCons (gName 2) gNil)))) (tt := tYes) rfl scCopy.nd (pi_list (pv 0)) (blkOk_by (own := [("_law_name_here", 1), ("_law_body_here", 2)]) (N := ["_law_procedures", "_law_name_here", "_law_body_here"]) (sc := defScope sCopy) (by decide +kernel)) (fun _ _ _ _ _ => (pg_tup rfl (pgs_cons (pg_name (i := 1) scCopy.nd rfl (by first | exact Or.inl rfl | exact Or.inr rfl)) (pgs_cons (pg_name (i := 2) scCopy.nd rfl (by first | exact Or.inl rfl | exact Or.inr rfl)) pgs_nil)))) (fun _ _ _ _ _ => pts_nil) (fun _ _ _ _ _ => (pe_tup (pa_cons (pv 1) (pa_cons (pe_callTy (k_list K) (by rfl) mList (by decide +kernel) (pa_cons (pv 2) pa_nil)) pa_nil))))))), ?_⟩
    refine ⟨_, rfl, a, rfl, ⟨_, .of L.1⟩, fun D hD => ?_⟩
    refine lc_it walk_list (fun i H' => ∃ (qs : List Addr) (es : List Pr), H' D = some (.lst (qs.map V.ref)) ∧ Paired (PrL H') qs es ∧ pls es = pls (rs.take i) ∧ Same H H' ∧ (∀ r ∈ es, H r.b = none ∧ r.b ≠ D) ∧ (es.map Pr.b).Nodup ∧ qs.length = i)
      ⟨[], [], upd_same, .nil, rfl, Same.new hD, (by simp), List.nodup_nil, rfl⟩ (fun i H' _ q => .of (q.choose_spec.choose_spec.2.2.2.1 _ _ L.1)) ?_ ?_
    · rintro i x _ H1 hi ⟨qs, es, h1, pr, ep, s1, fr, nd, lq⟩ ⟨rfl, hx⟩
      rw [List.getElem?_map] at hx
      obtain ⟨p, hp, rfl⟩ := Option.map_eq_some_iff.mp hx
      obtain ⟨r, hr2, pa⟩ := paired_get L.2 hp
      have p1 := pa.same s1
      rw [List.length_map, lpr] at hi
      refine ⟨p, _, rfl, .of p1.1, rfl, _, _, rfl, _, _, rfl, rfl, rfl, yes_then ?_⟩
      refine ⟨_, rfl, _, rfl, r.b, _, rfl, .inl (.of p1.2.1), fun l hl => ⟨(by show 2 ≤ sizeLine; decide), fun t ht => ?_⟩⟩
      have s2 : Same H1 (upd (upd H1 l (.lst (r.ts.map V.ref))) t (.tup [.str r.name, .ref l])) := (Same.new hl).trans (Same.new ht)
      have hl2 : (upd (upd H1 l (.lst (r.ts.map V.ref))) t (.tup [.str r.name, .ref l])) l = some (.lst (r.ts.map V.ref)) := (Same.new ht) _ _ upd_same
      have ht2 : (upd (upd H1 l (.lst (r.ts.map V.ref))) t (.tup [.str r.name, .ref l])) t = some (.tup [.str r.name, .ref l]) := upd_same
      generalize upd (upd H1 l (.lst (r.ts.map V.ref))) t (.tup [.str r.name, .ref l]) = H2 at s2 hl2 ht2
      have h2 := s2 _ _ h1
      have lD : l ≠ D := ne_none hl h1
      refine ⟨_, h2, ?_, qs ++ [t], es ++ [⟨r.name, l, r.ts, r.ss⟩], by rw [upd_same, List.map_append]; rfl, ?_, ?_, (s1.trans s2).mut hD, fun e he => ?_, ?_, by rw [List.length_append, lq]; rfl⟩
      · rw [List.length_map, lq]; exact Nat.lt_of_lt_of_le (by omega : i < 17) (by decide)
      · refine paired_snoc (paired_same (paired_mem pr) fun q e hqe => (hqe.1.same s2).put h2 (fr e hqe.2).2) ⟨?_, ?_, ?_⟩
        · rw [upd_ne (fun e => by rw [e, h2] at ht2; cases ht2)]; exact ht2
        · rw [upd_ne lD]; exact hl2
        · exact (p1.2.2.same s2).sameN (SameN.refl.put h2)
      · rw [pls_snoc, ep, List.take_add_one, hr2]
        show _ = pls (rs.take i ++ [r])
        rw [pls_snoc]
      · rcases List.mem_append.mp he with he | he
        · exact fr e he
        · rw [List.mem_singleton.mp he]
          exact ⟨by cases hH : H l with | none => rfl | some o => (rw [s1 _ _ hH] at hl; cases hl), lD⟩
      · rw [List.map_append]
        refine List.nodup_append.mpr ⟨nd, List.nodup_cons.mpr ⟨by simp, List.nodup_nil⟩, fun y hy u hu e => ?_⟩
        obtain ⟨e', he', rfl⟩ := List.mem_map.mp hy
        have q : u = l := List.mem_singleton.mp hu
        obtain ⟨p', hp'⟩ := paired_has pr he'
        have z := hp'.2.1
        rw [e, q, hl] at z
        cases z
    · rintro H1 ⟨qs, es, h1, pr, ep, s1, fr, nd, lq⟩
      rw [List.length_map, lpr, List.take_length] at ep
      exact k D qs es H1 ⟨h1, pr⟩ ep hD fr nd s1

end
end Mf
namespace Mf
open PySem L2
section
variable {P : Program} {w : World} {K : PySem.W.Frag} {mg : Str → Option Value} {base : Heap} {Cp C : Addr}
/-! ### the methods of Program -/
structure PgOps (P : Program) (w : World) (K : PySem.W.Frag) (mg : Str → Option Value) (base : Heap) (Cp : Addr) : Prop where
  eq : CalM P w K mg base CX0 2 Cp "__eq__" ["self", "other"] (spPgEq K Cp)
  get : CalM P w K mg base CX0 1 Cp "__getitem__" ["self", "name"] (spPgGet K Cp)
  has : CalM P w K mg base CX0 1 Cp "__contains__" ["self", "name"] (spPgHas K Cp)
  len : CalM P w K mg base CX0 1 Cp "__len__" ["self"] (spPgLen K Cp)
  ne : PySem.W.findIn K (.ref Cp) "__ne__" = some (some (.builtin "object.__ne__"))
theorem pls_get {es rs : List Pr} (e : pls es = pls rs) {i : Nat} {r : Pr} (h : es[i]? = some r) : ∃ q, rs[i]? = some q ∧ q.name = r.name ∧ q.ss = r.ss := by
  have h1 : (pls es)[i]? = some (r.name, r.ss) := by unfold pls; rw [List.getElem?_map, h]; rfl
  rw [e] at h1
  unfold pls at h1
  rw [List.getElem?_map] at h1
  obtain ⟨q, hq, he⟩ := Option.map_eq_some_iff.mp h1
  exact ⟨q, hq, congrArg Prod.fst he, congrArg Prod.snd he⟩
theorem pls_len {es rs : List Pr} (e : pls es = pls rs) : es.length = rs.length := by have := congrArg List.length e; simpa [pls] using this
theorem pls_nms {es rs : List Pr} (e : pls es = pls rs) : es.map Pr.name = rs.map Pr.name := by rw [← pls_names, ← pls_names, e]
end
end Mf
namespace Mf
open PySem L2
section
variable {P : Program} {w : World} {K : PySem.W.Frag} {mg : Str → Option Value} {base : Heap} {Cp C : Addr}
end
end Mf
/-! A walk over a list or a tuple; a def that is called with fewer arguments than it has; what is reached along steps. -/
namespace Mf
open PySem PySem.Spec PyProof.Rows L2
theorem same_SqL {K : PySem.W.Frag} {t : Addr} {H H' : Hp} {xs : List V} (x : Same H H') (h : SqL K H t xs) : SqL K H' t xs := by
  rcases h with (h | ⟨o, h⟩) | h
  · exact .inl (.inl (x _ _ h))
  · exact .inl (.inr ⟨o, x _ _ h⟩)
  · exact .inr h
theorem same_Seq {K : PySem.W.Frag} {t : Addr} {H H' : Hp} {xs : List V} (x : Same H H') (h : SqL K H t xs ∨ SqT K H t xs) : SqL K H' t xs ∨ SqT K H' t xs := h.imp (same_SqL x) x.tup
section
variable {X : Cx} {tg : Expr}
/-- a walk over a list or a tuple -/
def iSeq (K : PySem.W.Frag) (tl : TE) : TI := fun σ H R => tl σ H fun x H1 => ∃ a xs, x = .ref a ∧ (SqL K H1 a xs ∨ SqT K H1 a xs) ∧ ∀ (J : It) (G : Hp → Prop), Walk J xs.length G (YAt xs) → (∀ H', Same H1 H' → G H') → R J H1
theorem pi_seq {l : Expr} {tl : TE} (hl : PE X l tl) : PI X tg l (iSeq X.K tl) := by
  refine ⟨fun pins s σ H R I h => ?_⟩
  refine thn (hl.run pins s σ H _ I h) fun v s1 ⟨x, H1, I1, r1, q1⟩ => ?_
  obtain ⟨a, xs, e, hq | hq, q⟩ := q1
  · subst e
    cases r1
    obtain ⟨its, rv, p, hz⟩ := I1.list hq
    refine wpAny_pyIter_list p.isList ?_
    refine ⟨s1.heap.objs.size, [s1.heap.objs.size], _, _, H1, rfl, I1.kept (t' := s1.toks) fun b o e => Heap.get?_push_of_some _ e, turn_list a _, ⟨_, Heap.get?_push_size _ rfl, rfl, rfl⟩, fun b hb => ?_, q _ _ walk_list fun H' s => same_SqL s hq⟩
    have e : b = s1.heap.objs.size := by simpa using hb
    subst e
    exact I1.fpOk (Nat.le_refl _) (I1.hok.fresh (Nat.le_refl _))
  · subst e
    cases r1
    obtain ⟨its, rv, p, hz⟩ := I1.tuple hq
    refine wpAny_pyIter_tuple (show s1.heap.IsTuple a its.toArray from p) ?_
    refine ⟨s1.heap.objs.size, [s1.heap.objs.size], _, _, H1, rfl, I1.kept (t' := s1.toks) fun b o e => Heap.get?_push_of_some _ e, turn_tuple a _, ⟨_, Heap.get?_push_size _ rfl, rfl, rfl⟩, fun b hb => ?_, q _ _ walk_tup fun H' s => s.tup hq⟩
    have e : b = s1.heap.objs.size := by simpa using hb
    subst e
    exact I1.fpOk (Nat.le_refl _) (I1.hok.fresh (Nat.le_refl _))
theorem piS (K : PySem.W.Frag) {l : Expr} {tl : TE} (hl : PE X l tl) (h : X.K = K := by rfl) : PI X tg l (iSeq K tl) := h ▸ pi_seq hl
end
/-! ### name = {..} on one line, the name a local -/
section
variable {X : Cx}
theorem ps_setDc {i : Nat} {y : Str} {py : Pos} {kx vx tg iter : Expr} {ifs : List Expr} {scope : Scope} {own : List (Str × Nat)} {pos spos : Pos} {wi : TI} {g : TG} {tt : TT} {tk tv : TE} (hc : X.calm = true) (hN : X.N.Nodup) (hy : X.N[i]? = some y) (hyl : X.env.scope.names.lookup y = some .local)
    (hsw : swapsWith (.DictComp kx vx [⟨tg, iter, ifs, 0⟩] scope pos) (some (.Name y py)) spos.line X.env = pure true) (hi : PI X tg iter wi) (ok : BlkOk X.N X.env.scope scope own)
    (hg : ∀ (s : Shared) (H : Hp) (C : Addr) (cl : List (Str × Addr)) (fp : List Addr), PG (X.blk s H scope (compEnvC scope cl C X.env) fp) tg g) (ht : ∀ (s : Shared) (H : Hp) (C : Addr) (cl : List (Str × Addr)) (fp : List Addr), PTs (X.blk s H scope (compEnvC scope cl C X.env) fp) ifs tt)
    (hk : ∀ (s : Shared) (H : Hp) (C : Addr) (cl : List (Str × Addr)) (fp : List Addr), PE (X.blk s H scope (compEnvC scope cl C X.env) fp) kx tk)
    (he : ∀ (s : Shared) (H : Hp) (C : Addr) (cl : List (Str × Addr)) (fp : List Addr), PE (X.blk s H scope (compEnvC scope cl C X.env) fp) vx tv) (hs : ∀ x, foldedSetIterable iter X.env x = pure x := by intro _; rfl) :
    PS X (.Assign [.Name y py] (.DictComp kx vx [⟨tg, iter, ifs, 0⟩] scope pos) spos) (tAsg (tDc wi g tt tk tv (own.map (·.2))) (gName i)) := by
  refine ⟨fun pins s σ H D I h => ?_⟩
  rw [exec_Assign_Name_used _ _ _ _ hsw]
  refine wpAny_bind (wpAny_standAt (wpAny_bind ?_))
  show wpAny _ X.A (do let _ ← comprehension (.DictComp kx vx [⟨tg, iter, ifs, 0⟩] scope pos) scope X.env (firstIterPos [⟨tg, iter, ifs, 0⟩] pos) newDict false (eval iter X.env) (some (assign (.Name y py) X.env))) _ _ s
  have h : tDc wi g tt tk tv (own.map (·.2)) σ H (fun x H1 => gName i x σ H1 D.nx) := h
  refine wpAny_bind (thn (dc_core (Qf := fun _ s' => SP X pins D .next s') hc hN I hi ok hg ht hk he hs h fun L C s' m H' I' q hn f => ?_) fun _ s' hq => wpAny_pure (wpAny_pure hq))
  show wpAny _ _ (assign (.Name y py) X.env (.ref L)) _ _ _
  refine wpAny_assign_Name (store_ok2 (v := V.ref L) I' hN hy (.inl hyl) rfl (fun s2 I2 ⟨a, sb, ha⟩ => ?_) (.inr hyl))
  obtain ⟨f0, f1, f2, f3, f4, f5⟩ := f
  have haC : C ≠ a := by
    rcases ha with z | z
    · rw [z]; exact f1
    · exact fun e => f4 y a z e.symm
  refine ⟨m, hn.sameBut sb haC, fun h3 sb3 => ?_⟩
  exact ⟨_, H', I2.turned (t' := s2.toks) (fun b o hb e => (sb3.2 b hb).trans e) f0 f1 f3 f4 f5, q⟩
theorem sw_trueD {kx vx : Expr} {gs : List Comprehension} {scope : Scope} {pos py : Pos} {y : Str} {l : Nat} {env : Env} (hk : env.scope.kind = .function) (hy : env.scope.names.lookup y = some .local) (hl : (py.line == pos.line) = true)
    (ha : (scope.names.any fun (n, k) => n == y && (k == .local || k == .cell)) = false) : swapsWith (.DictComp kx vx gs scope pos) (some (.Name y py)) l env = pure true := by
  have ky : env.kindOf y = some .local := hy
  have hb : env.blockKind = .function := by unfold Env.blockKind; rw [hk]; rfl
  unfold swapsWith
  simp only [hb, ky, ha, Expr.pos, hl]
  rfl
end
/-- a def with default values, in which nothing is raised -/
theorem funD_ok {P : Program} {w : World} {K : PySem.W.Frag} {mg : Str → Option Value} {base : Heap} {x qual : Str} {params : Arguments} {body : List Stmt} {scope : Scope} {dvs : List V} {kws : List (Str × V)} {f : Addr} {fd : FuncData} {N ps : List Str} {k : Nat} {sp : Sp} (F : FunD K x qual params body scope dvs kws f fd) (S : FnScope N ps scope) (len : ∀ vs H Q E, sp vs H Q E → vs.length = ps.length)
    (hbody : ∀ (cdv : Value) (A : Around) (outer : List Env) (s : Shared) (H : Hp) (vs : List V) (Q : VK) (E : XK), Room k (A.deeper (envOfC qual scope s.heap.objs.size f cdv)) → sp vs H Q E →
      ∃ t, PSs (cxOf CX0 P w K mg base N qual scope f cdv A outer s H E).nox body t ∧ t { nx := fun _ H' => Q .non H', rt := Q } (start N vs) H) : FnOk P w K mg base CX0 (k + 1) f fd ps sp :=
  F.ok S len fun cdv A outer s H vs Q E hr hsp =>
    let ⟨t, h, q⟩ := hbody cdv A outer s H vs Q E hr hsp
    ⟨t, h.nox, q⟩
/-! ### a list of truths -/
theorem lc_bools {J : It} {G : Hp → Prop} {xs : List V} {fs : List Bool} (w : Walk J xs.length G (YAt xs)) {g : TG} {tt : TT} {te : TE} {vs : List Nat} {σ : L2.St} {H0 : Hp} {D : Addr} {Qd : Hp → Prop} (hl : fs.length = xs.length) (few : fs.length ≤ 4000) (hD : H0 D = none) (hG : ∀ H, Same H0 H → G H)
    (hs : ∀ (i : Nat) (x : V) (b : Bool) (H' : Hp) (Qe : VK) (Pf : Hp → Prop), xs[i]? = some x → fs[i]? = some b → Same H0 H' → (∀ H3, Same H' H3 → Qe (.bl b) H3) → g x (wipe σ vs) H' fun σ2 H2 => wipe σ2 vs = wipe σ vs ∧ tt σ2 H2 fun c H3 => if c = true then te σ2 H3 Qe else Pf H3)
    (hd : ∀ H, Same H0 H → H D = some (.lst (fs.map V.bl)) → Qd H) :
    ∃ W : Nat → Nat → Hp → Prop, (∃ m, W 0 m (upd H0 D (.lst []))) ∧ ∀ i m H, W i m H →
      (J.stop i H ∧ Qd H) ∨ (J.go i H ∧ ∃ Nx : Hp → Prop, (∀ H', Nx H' → ∃ m', m' < m ∧ W (i + 1) m' H') ∧ ∀ x H', J.yld i H x H' → g x (wipe σ vs) H' fun σ2 H2 => wipe σ2 vs = wipe σ vs ∧ tt σ2 H2 fun b H3 =>
        if b = true then te σ2 H3 fun y H4 => ∃ acc, H4 D = some (.lst acc) ∧ acc.length < sizeLine ∧ Nx (upd H4 D (.lst (acc ++ [y]))) else Nx H3) := by
  refine lc_it w (fun i H' => Same H0 H' ∧ H' D = some (.lst ((fs.take i).map V.bl))) ⟨Same.new hD, upd_same⟩ (fun i H' _ q => hG _ q.1) ?_ fun H' ⟨s1, h1⟩ => hd H' s1 (by rw [← hl, List.take_length] at h1; exact h1)
  rintro i x _ H1 hi ⟨s1, h1⟩ ⟨rfl, hx⟩
  have hb := List.getElem?_eq_getElem (show i < fs.length by omega)
  refine hs i x fs[i] H1 _ _ hx hb s1 fun H3 s3 => ⟨_, s3 _ _ h1, ?_, (s1.trans s3).mut hD, ?_⟩
  · rw [List.length_map]
    exact Nat.lt_of_le_of_lt (List.length_take_le _ _) (Nat.lt_of_lt_of_le (by omega : i < 4000) (by decide))
  · rw [upd_same, List.take_add_one, hb, List.map_append]; rfl
/-- all of them true -/
theorem lc_yes {J : It} {G : Hp → Prop} {xs : List V} (w : Walk J xs.length G (YAt xs)) {g : TG} {tt : TT} {te : TE} {vs : List Nat} {σ : L2.St} {H0 : Hp} {D : Addr} {Qd : Hp → Prop} (few : xs.length ≤ 4000) (hD : H0 D = none) (hG : ∀ H, Same H0 H → G H)
    (hs : ∀ (i : Nat) (x : V) (H' : Hp) (Qe : VK) (Pf : Hp → Prop), xs[i]? = some x → Same H0 H' → (∀ H3, Same H' H3 → Qe (.bl true) H3) → g x (wipe σ vs) H' fun σ2 H2 => wipe σ2 vs = wipe σ vs ∧ tt σ2 H2 fun c H3 => if c = true then te σ2 H3 Qe else Pf H3)
    (hd : ∀ (H : Hp) (fs : List Bool), Same H0 H → H D = some (.lst (fs.map V.bl)) → fs.all id = true → Qd H) :
    ∃ W : Nat → Nat → Hp → Prop, (∃ m, W 0 m (upd H0 D (.lst []))) ∧ ∀ i m H, W i m H →
      (J.stop i H ∧ Qd H) ∨ (J.go i H ∧ ∃ Nx : Hp → Prop, (∀ H', Nx H' → ∃ m', m' < m ∧ W (i + 1) m' H') ∧ ∀ x H', J.yld i H x H' → g x (wipe σ vs) H' fun σ2 H2 => wipe σ2 vs = wipe σ vs ∧ tt σ2 H2 fun b H3 =>
        if b = true then te σ2 H3 fun y H4 => ∃ acc, H4 D = some (.lst acc) ∧ acc.length < sizeLine ∧ Nx (upd H4 D (.lst (acc ++ [y]))) else Nx H3) := by
  refine lc_bools (fs := List.replicate xs.length true) w (by simp) (by simpa using few) hD hG (fun i x b H' Qe Pf hx hb s1 k => ?_) fun H s1 h1 => hd H _ s1 h1 (by simp)
  have e : b = true := by
    have := List.mem_of_getElem? hb
    exact (List.mem_replicate.mp this).2
  subst e
  exact hs i x H' Qe Pf hx s1 k
/-! ### a def called with its last parameters left to their defaults -/
structure CalD (P : Program) (w : World) (K : PySem.W.Frag) (mg : Str → Option Value) (base : Heap) (CX : CXT) (k : Nat) (x : Str) (ps : List Str) (sp : Sp) (dvs : List V) : Prop where
  ex : ∃ (f : Addr) (fd : FuncData) (ds : List Value), FnOk P w K mg base CX k f fd ps sp ∧ mg x = some (.ref f) ∧ PySem.W.keepIn K (.ref f) = true ∧ Binds K fd ps ds ∧ Vals dvs ds
theorem pe_cald {X : Cx} {CX : CXT} {k : Nat} {x : Str} {ps : List Str} {sp : Sp} {dvs : List V} {E : XK} {e : Expr} {es : List Expr} {t : TA} {p pos : Pos} (c : CalD X.prog X.w X.K X.mg X.base CX k x ps sp dvs) (hr : Room k X.A) (hx : Passes CX X E) (ha : PA X (e :: es) t) (hg : Gl X x := by rfl)
    (hdb : (x == ("__debug__" : Str)) = false := by decide) (he : starEach (e :: es) X.env = (false, eval e X.env) :: starEach es X.env := by rfl) (hpl : (backTo pos (starEach es X.env)).any (·.1) = false := by rfl) :
    PE X (.Call (.Name x p) (e :: es) [] pos) (tCall sp dvs E t) := by
  obtain ⟨f, fd, ds, F, m, kp, b, v⟩ := c.ex
  exact pe_call F hr hg m kp b v hx ha hdb he hpl

/-- x in t, t a tuple of data -/
def rInDT (K : PySem.W.Frag) : R2 := fun x y H Q => ∃ d ds, Dp K H x d ∧ Dp K H y (.tuple ds) ∧ SeqAt.shaped d = true ∧ SeqAt.shaped (.tuple ds) = true ∧ Q (.bl (ds.any fun z => PyData.eqv z d)) H
theorem op_inDT {X : Cx} (hu : X.A.units + 65 < cLine) : OpR X (compareOp .In) (rInDT X.K) := by
  intro pins s σ H x y v u Q I rx ry h
  obtain ⟨d, ds, hd, he, sd, se, q⟩ := h
  obtain ⟨as, r1⟩ := Dp.reads I d x v hd rx
  obtain ⟨bs, r2⟩ := Dp.reads I (.tuple ds) y u he ry
  exact SeqAt.in_tuple_reads r2 r1 (SeqAt.canLay_of_shaped se) (SeqAt.canLay_of_shaped sd) (room_in_shaped sd hu) ⟨.bl _, H, I, rfl, q⟩
theorem inDT {X : Cx} (K : PySem.W.Frag) {k : Nat} (hr : Room (k + 1) X.A) (h : X.K = K := by rfl) : OpR X (compareOp .In) (rInDT K) := h ▸ op_inDT (Room.in1 hr).units
/-- a def with keyword-only parameters, called with keywords ks -/
structure CalK (P : Program) (w : World) (K : PySem.W.Frag) (mg : Str → Option Value) (base : Heap) (CX : CXT) (k : Nat) (x : Str) (ps : List Str) (sp : Sp) (n : Nat) (ks : List Str) (gV : List V → List V → List V) : Prop where
  ex : ∃ (f : Addr) (fd : FuncData) (g : List Value → List Value → List Value), FnOk P w K mg base CX k f fd ps sp ∧ mg x = some (.ref f) ∧ PySem.W.keepIn K (.ref f) = true ∧ KBn K fd ps n ks g gV
theorem pe_calk {X : Cx} {CX : CXT} {k n : Nat} {x : Str} {ps ks : List Str} {sp : Sp} {gV : List V → List V → List V} {E : XK} {e : Expr} {es : List Expr} {kws : List Keyword} {t tk : TA} {p pos : Pos} (c : CalK X.prog X.w X.K X.mg X.base CX k x ps sp n ks gV) (hr : Room k X.A) (hx : Passes CX X E) (ha : PA X (e :: es) t) (hkw : PK X kws tk) (hg : Gl X x := by rfl)
    (hall : (backToKw pos (keywordEach kws X.env)).all (·.1.isSome) = true := by rfl) (hks : (backToKw pos (keywordEach kws X.env)).filterMap (·.1) = ks := by rfl)
    (hdb : (x == ("__debug__" : Str)) = false := by decide) (he : starEach (e :: es) X.env = (false, eval e X.env) :: starEach es X.env := by rfl)
    (hpl : ((backTo pos (starEach (e :: es) X.env)).any (·.1) || (backToKw pos (keywordEach kws X.env)).any (·.1.isNone)) = false := by rfl) :
    PE X (.Call (.Name x p) (e :: es) kws pos) (tCallN n ks.length sp gV E t tk) := by
  obtain ⟨f, fd, g, F, m, kp, b⟩ := c.ex
  exact pe_callN F hr hg m kp b hx ha hkw hall hks hdb he hpl
/-- C(..) of a class that stands in a local name -/
theorem pe_mkl {X : Cx} {CX : CXT} {k : Nat} {x y : Str} {C : Addr} {ps : List Str} {sp : Sp} {dvs : List V} {E : XK} {e : Expr} {es : List Expr} {t : TA} {p pos : Pos} {te : TE} (c : CalC X.prog X.w X.K X.mg X.base CX k x C ps sp dvs) (hr : Room (k + 1) X.A) (hx : Passes CX X E) (hn : PE X (.Name y p) te) (ha : PA X (e :: es) t)
    (he : starEach (e :: es) X.env = (false, eval e X.env) :: starEach es X.env := by rfl) (hpl : (backTo pos (starEach es X.env)).any (·.1) = false := by rfl) :
    PE X (.Call (.Name y p) (e :: es) [] pos) (fun σ H Q => te σ H fun v H1 => v = .ref C ∧ tMake C sp dvs E t σ H1 Q) := by
  obtain ⟨f, fd, ds, M, F, mm, b, v⟩ := c.ex
  refine ⟨fun pins s σ H Q I h => ?_⟩
  refine wpAny_Call_Name_kw (thn (hn.run pins s σ H _ I h) fun u s1 ⟨w, H1, I1, rw, ew, q⟩ => ?_)
  subst ew
  obtain rfl : u = Value.ref C := rw
  refine PySem.W.callWith_K (h₀ := X.base) I1.ok.mod.kin M.kp (thn (ha.run pos pins s1 σ H1 _ I1 q) fun us s2 ⟨vs, H2, I2, r, q⟩ => ⟨I2.kIn, ?_⟩) he hpl
  exact run_make M F hr b v hx I2 r q
/-! ### what is reached along steps -/
/-- a step of y, of one of the kinds, names z -/
def Suc (x : List Pc) (kds : List Str) (y z : Str) : Prop := ∃ ss, (y, ss) ∈ x ∧ ∃ s ∈ ss, s.1 ∈ kds ∧ s.2 = z
inductive Rch (S : Str → Str → Prop) (out : Str → Prop) (st : Str → Prop) : Str → Prop
  | base {z : Str} (h : st z) (n : ¬ out z) : Rch S out st z
  | step {y z : Str} (h : Rch S out st y) (s : S y z) (n : ¬ out z) : Rch S out st z
theorem Rch.sub {S : Str → Str → Prop} {out st : Str → Prop} {fl : Str → Prop} (h1 : ∀ z, st z → ¬ out z → fl z) (h2 : ∀ y z, fl y → S y z → ¬ out z → fl z) : ∀ {z}, Rch S out st z → fl z := fun h => by
  induction h with
  | base h n => exact h1 _ h n
  | step _ s n ih => exact h2 _ _ ih s n
theorem Rch.mono {S : Str → Str → Prop} {out st st' : Str → Prop} (h : ∀ z, st z → ¬ out z → Rch S out st' z) {z : Str} (r : Rch S out st z) : Rch S out st' z := r.sub h fun _ _ a b c => .step a b c
theorem pc_one : ∀ {x : List Pc} {y : Str} {ss tt : List Step}, (x.map (·.1)).Nodup → (y, ss) ∈ x → (y, tt) ∈ x → tt = ss
  | [], _, _, _, _, h, _ => by cases h
  | a :: x, y, ss, tt, nd, h, g => by
    rw [List.map_cons, List.nodup_cons] at nd
    rcases List.mem_cons.mp h with h1 | h1
    · rcases List.mem_cons.mp g with g1 | g1
      · rw [← h1] at g1
        exact (Prod.mk.injEq .. ▸ g1).2
      · exact absurd (List.mem_map.mpr ⟨(y, tt), g1, by rw [← h1]⟩) nd.1
    · rcases List.mem_cons.mp g with g1 | g1
      · exact absurd (List.mem_map.mpr ⟨(y, ss), h1, by rw [← g1]⟩) nd.1
      · exact pc_one nd.2 h1 g1
theorem Suc.one {x : List Pc} {kds : List Str} {y z : Str} {ss : List Step} (nd : (x.map (·.1)).Nodup) (h : (y, ss) ∈ x) : Suc x kds y z ↔ ∃ s ∈ ss, s.1 ∈ kds ∧ s.2 = z :=
  ⟨fun ⟨tt, h2, q⟩ => by rw [pc_one nd h h2] at q; exact q, fun q => ⟨ss, h, q⟩⟩

/-! ### all but lists and dicts stays -/
def NoLD (o : HO) : Prop := (∀ xs, o ≠ .lst xs) ∧ ∀ k, o ≠ .dK k
def SameT (H H' : Hp) : Prop := ∀ b o, NoLD o → H b = some o → H' b = some o
theorem SameT.refl {H : Hp} : SameT H H := fun _ _ _ h => h
theorem SameT.of {H H' : Hp} (x : Same H H') : SameT H H' := fun b o _ h => x b o h
theorem SameT.trans {H H1 H2 : Hp} (x : SameT H H1) (y : SameT H1 H2) : SameT H H2 := fun b o n h => y b o n (x b o n h)
theorem SameT.putL {H H1 : Hp} {p : Addr} {xs : List V} {o : HO} (x : SameT H H1) (h : H1 p = some (.lst xs)) : SameT H (upd H1 p o) := fun b u n e => by
  have q := x b u n e
  rw [upd_ne (fun z => by rw [z, h] at q; exact n.1 xs (Option.some.inj q).symm)]
  exact q
theorem SameT.putD {H H1 : Hp} {p : Addr} {xs : List (Key × V)} {o : HO} (x : SameT H H1) (h : H1 p = some (.dK xs)) : SameT H (upd H1 p o) := fun b u n e => by
  have q := x b u n e
  rw [upd_ne (fun z => by rw [z, h] at q; exact n.2 xs (Option.some.inj q).symm)]
  exact q
theorem noLD_tup {xs : List V} : NoLD (.tup xs) := ⟨(fun _ h => nomatch h), (fun _ h => nomatch h)⟩
theorem SameT.tup {K : PySem.W.Frag} {t : Addr} {H H' : Hp} {xs : List V} (x : SameT H H') (h : SqT K H t xs) : SqT K H' t xs := by
  rcases h with (h | ⟨o, h⟩) | h
  · exact .inl (.inl (x _ _ noLD_tup h))
  · exact .inl (.inr ⟨o, x _ _ ⟨(fun _ h => nomatch h), (fun _ h => nomatch h)⟩ h⟩)
  · exact .inr h
theorem take_not {α : Type} {xs : List α} {i : Nat} {z : α} (nd : xs.Nodup) (h : xs[i]? = some z) : ¬ z ∈ xs.take i := fun m => by
  have e : xs.take (i + 1) = xs.take i ++ [z] := by rw [List.take_add_one, h]; rfl
  have n : (xs.take (i + 1)).Nodup := (List.take_sublist _ _).nodup nd
  rw [e, List.nodup_append] at n
  exact n.2.2 z m z (List.mem_singleton.mpr rfl) rfl
end Mf
namespace Mf
open PySem L2
section
variable {P : Program} {w : World} {K : PySem.W.Frag} {mg : Str → Option Value} {base : Heap} {C : Addr}
abbrev psSO : List Str := ["self", "other"]
/-- what stands on the right of an == -/
def Oth (K : PySem.W.Frag) (C : Addr) (H : Hp) (y : V) (ms : List Str) (b : Bool) : Prop := (∃ q ns, y = .ref q ∧ NSet C H q ns ∧ b = decide (ms = ns)) ∨ ∃ t, TyX K H y t ∧ PySem.W.kitOne K t (.ref C) = some false ∧ b = false
def spNsEq (K : PySem.W.Frag) (C : Addr) : Sp := fun vs H Q _ => ∃ (p : Addr) (ms : List Str) (y : V) (b : Bool), vs = [.ref p, y] ∧ NSet C H p ms ∧ Oth K C H y ms b ∧ Q (.bl b) H
abbrev sNameSetEq : Stmt := inClass (top 6) 1
theorem scNameSetEq : FnScope ["self", "other"] ["self", "other"] (defScope sNameSetEq) := ⟨rfl, rfl, rfl, by decide +kernel, rfl, by decide +kernel, by decide +kernel⟩
theorem ok_nsEq {f : Addr} {fd : FuncData} (F : Fun K "__eq__" "NameSet.__eq__" sNameSetEq f fd) (T : NsC K mg C) : FnOk P w K mg base CX0 1 f fd psSO (spNsEq K C) := by
  refine F.ok scNameSetEq (fun vs H Q E h => ?_) (fun cdv A outer s H vs Q E hr h => ?_)
  · obtain ⟨p, ms, y, b, rfl, _⟩ := h
    rfl
  · obtain ⟨p, ms, y, b, rfl, hN, ho, k⟩ := h
    have mIsi := T.mIsi; have mg_NameSet := T.mgC
    refine ⟨_, (pss_one (ps_ret (pe_and (pe_callB (k_isi K) (by rfl) mIsi (by decide +kernel) (pa_cons (pv 1) (pa_cons (pe_glob (v := .ref _) rfl mg_NameSet rfl) pa_nil))) (pe_one (pe_cmpR (eqD K hr) (fldK K (pv 0)) (fldK K (pv 1)) (nomark _)))))), ?_⟩
    obtain ⟨dx, t, h1, h2, up, few, ok⟩ := hN
    rcases ho with ⟨q, ns, rfl, ⟨dy, u, g1, g2, up2, few2, ok2⟩, rfl⟩ | ⟨ty, hy, e, rfl⟩
    · refine ⟨_, rfl, _, _, _, _, true, rfl, .own C, T.isi g1, T.ins.me, _, rfl, iteT ⟨_, rfl, p, C, dx, _, _, rfl, h1, T.ins.cl, T.nM, flM_get t, _, rfl, q, C, dy, _, _, rfl, g1, T.ins.cl, T.nM, flM_get u, ?_⟩⟩
      refine ⟨_, _, .tup (.of h2) (dpS ms), .tup (.of g2) (dpS ns), shT ok, shT ok2, ?_⟩
      show Q (.bl (PyData.eqvAll _ _)) H
      rw [eqvS]
      exact k
    · exact ⟨_, rfl, _, _, _, _, false, rfl, .own C, hy, e, _, rfl, iteF k⟩

def spNsLe (C : Addr) : Sp := fun vs H Q _ => ∃ (p q : Addr) (ms ns : List Str), vs = [.ref p, .ref q] ∧ NSet C H p ms ∧ NSet C H q ns ∧ ∀ H', Same H H' → Q (.bl (ms.all fun z => decide (z ∈ ns))) H'
abbrev sNameSetLe : Stmt := inClass (top 6) 2
theorem scNameSetLe : FnScope ["self", "other", "name"] ["self", "other"] (defScope sNameSetLe) := ⟨rfl, rfl, rfl, by decide +kernel, rfl, by decide +kernel, by decide +kernel⟩
theorem ok_nsLe {f : Addr} {fd : FuncData} (F : Fun K "__le__" "NameSet.__le__" sNameSetLe f fd) (T : NsC K mg C) : FnOk P w K mg base CX0 1 f fd psSO (spNsLe C) := by
  refine F.ok scNameSetLe (fun vs H Q E h => ?_) (fun cdv A outer s H vs Q E hr h => ?_)
  · obtain ⟨p, q, ms, ns, rfl, _⟩ := h
    rfl
  · obtain ⟨p, q, ms, ns, rfl, ⟨dx, t, h1, h2, up, few, ok⟩, ⟨dy, u, g1, g2, up2, few2, ok2⟩, k⟩ := h
    have mAll := T.mAll
    refine ⟨_, (pss_one (ps_ret (pe_callB (k_all K) (by rfl) mAll (by decide +kernel) (pa_cons (pe_lc (own := [("name", 2)]) (g := (gName 2)) (tt := tYes) rfl scNameSetLe.nd (pi_tup (fldK K (pv 0))) (blkOk_by (own := [("name", 2)]) (N := ["self", "other", "name"]) (sc := defScope sNameSetLe) (by decide +kernel)) (fun _ _ _ _ _ => (pg_name (i := 2) scNameSetLe.nd rfl (by first | exact Or.inl rfl | exact Or.inr rfl))) (fun _ _ _ _ _ => pts_nil) (fun _ _ _ _ _ => (pe_cmpR (oin K) (pv 2) (fldK K (pv 1)) (by rfl)))) pa_nil)))), ?_⟩
    refine ⟨_, rfl, p, C, dx, _, _, rfl, h1, T.ins.cl, T.nM, flM_get t, t, rfl, ⟨_, .of h2⟩, fun D hD => ?_⟩
    refine lc_it walk_tup (fun i H' => Same H H' ∧ H' D = some (.lst ((ms.take i).map fun z => V.bl (decide (z ∈ ns))))) ⟨Same.new hD, upd_same⟩ (fun i H' _ q => q.1.tup (.of h2)) ?_ ?_
    · rintro i x H1 _ hi ⟨s1, h3⟩ ⟨rfl, hx⟩
      rw [List.getElem?_map] at hx
      obtain ⟨z, hz, rfl⟩ := Option.map_eq_some_iff.mp hx
      rw [List.length_map] at hi
      refine ⟨rfl, yes_then ?_⟩
      refine ⟨_, rfl, _, rfl, q, C, dy, _, _, rfl, s1 _ _ g1, T.ins.cl, T.nM, flM_get u, u, _, rfl, .inr (.of (s1 _ _ g2)), rfl, flat_strs ns, _, h3, ?_, s1.mut hD, ?_⟩
      · rw [List.length_map]
        exact Nat.lt_of_le_of_lt (List.length_take_le _ _) (Nat.lt_of_lt_of_le (by omega : i < 4000) (by decide))
      · rw [upd_same, List.take_add_one, hz]
        show some (HO.lst (_ ++ [V.bl (inV (.str z) (ns.map V.str))])) = _
        rw [inV_str, List.map_append]
        rfl
    · rintro H1 ⟨s1, h3⟩
      have e : ((ms.take (ms.map V.str).length).map fun z => V.bl (decide (z ∈ ns))) = (ms.map fun z => decide (z ∈ ns)).map V.bl := by rw [List.length_map, List.take_length, List.map_map]; rfl
      rw [e] at h3
      refine ⟨D, _, rfl, .of h3, ?_⟩
      rw [List.all_map]
      exact k H1 s1
/-- what an operator that makes a set gives -/
def spNsOp (C : Addr) (g : List Str → List Str → Str → Prop) : Sp := fun vs H Q _ => ∃ (p q : Addr) (ms ns : List Str), vs = [.ref p, .ref q] ∧ NSet C H p ms ∧ NSet C H q ns ∧ ms.length + ns.length < 4000 ∧ ∀ r rs H', NSet C H' r rs → (∀ z, z ∈ rs ↔ g ms ns z) → Same H H' → Q (.ref r) H'
abbrev gOr : List Str → List Str → Str → Prop := fun ms ns z => z ∈ ms ∨ z ∈ ns
abbrev gAnd : List Str → List Str → Str → Prop := fun ms ns z => z ∈ ms ∧ z ∈ ns
abbrev gSub : List Str → List Str → Str → Prop := fun ms ns z => z ∈ ms ∧ z ∉ ns
abbrev sNameSetOr : Stmt := inClass (top 6) 4
theorem scNameSetOr : FnScope ["self", "other"] ["self", "other"] (defScope sNameSetOr) := ⟨rfl, rfl, rfl, by decide +kernel, rfl, by decide +kernel, by decide +kernel⟩
theorem ok_nsOr {f : Addr} {fd : FuncData} (F : Fun K "__or__" "NameSet.__or__" sNameSetOr f fd) (T : NsC K mg C) (mk : CalN P w K mg base C []) : FnOk P w K mg base CX0 3 f fd psSO (spNsOp C gOr) := by
  refine F.ok scNameSetOr (fun vs H Q E h => ?_) (fun cdv A outer s H vs Q E hr h => ?_)
  · obtain ⟨p, q, ms, ns, rfl, _⟩ := h
    rfl
  · obtain ⟨p, q, ms, ns, rfl, ⟨dx, t, h1, h2, up, few, ok⟩, ⟨dy, u, g1, g2, up2, few2, ok2⟩, fw, k⟩ := h
    refine ⟨_, (pss_one (ps_ret (pe_mkc mk hr pass0 (pa_cons (pe_op op_catA (fldK K (pv 0)) (fldK K (pv 1))) pa_nil)))), ?_⟩
    have two : ∀ z ∈ ms ++ ns, PyData.strOk z = true := fun z hz => (List.mem_append.mp hz).elim (ok z) (ok2 z)
    refine ⟨_, rfl, p, C, dx, _, _, rfl, h1, T.ins.cl, T.nM, flM_get t, _, rfl, q, C, dy, _, _, rfl, g1, T.ins.cl, T.nM, flM_get u, ?_⟩
    refine ⟨t, u, ms.map V.str, ns.map V.str, rfl, rfl, .of h2, .of g2, ?_⟩
    have few3 : (ms ++ ns).length < 4000 := by rw [List.length_append]; exact fw
    refine ⟨Nat.le_trans (by rw [List.length_map, List.length_map]; omega : _ ≤ 4000) (by decide), fun e => ?_, fun e e2 => ?_, fun e e2 r nr => ?_⟩
    · obtain rfl := List.map_eq_nil_iff.mp e
      refine make_ns (.tup g2) few2 ok2 fun r rs H' n m _ s => k r rs H' n (fun z => ?_) s
      rw [m z]; simp
    · obtain rfl := List.map_eq_nil_iff.mp e2
      refine make_ns (.tup h2) few ok fun r rs H' n m _ s => k r rs H' n (fun z => ?_) s
      rw [m z]; simp
    · rw [← List.map_append]
      refine make_ns (.tup upd_same) few3 two fun r2 rs H' n m _ s => k r2 rs H' n (fun z => ?_) ((Same.new nr).trans s)
      rw [m z, List.mem_append]

def spNsIn (C : Addr) : Sp := fun vs H Q _ => ∃ (p : Addr) (ms : List Str) (z : Str), vs = [.ref p, .str z] ∧ NSet C H p ms ∧ Q (.bl (decide (z ∈ ms))) H
abbrev sNameSetContains : Stmt := inClass (top 6) 7
theorem scNameSetContains : FnScope ["self", "name"] ["self", "name"] (defScope sNameSetContains) := ⟨rfl, rfl, rfl, by decide +kernel, rfl, by decide +kernel, by decide +kernel⟩
theorem ok_nsIn {f : Addr} {fd : FuncData} (F : Fun K "__contains__" "NameSet.__contains__" sNameSetContains f fd) (T : NsC K mg C) : FnOk P w K mg base CX0 1 f fd ["self", "name"] (spNsIn C) := by
  refine F.ok scNameSetContains (fun vs H Q E h => ?_) (fun cdv A outer s H vs Q E hr h => ?_)
  · obtain ⟨p, ms, z, rfl, _⟩ := h
    rfl
  · obtain ⟨p, ms, z, rfl, ⟨dx, t, h1, h2, up, few, ok⟩, k⟩ := h
    refine ⟨_, (pss_one (ps_ret (pe_cmpR (oin K) (pv 1) (fldK K (pv 0)) (by rfl)))), ?_⟩
    refine ⟨_, rfl, _, rfl, p, C, dx, _, _, rfl, h1, T.ins.cl, T.nM, flM_get t, t, _, rfl, .inr (.of h2), rfl, flat_strs ms, ?_⟩
    show Q (.bl (inV (.str z) (ms.map V.str))) H
    rw [inV_str]
    exact k
structure NsO (P : Program) (w : World) (K : PySem.W.Frag) (mg : Str → Option Value) (base : Heap) (C : Addr) : Prop where
  eq : CalM P w K mg base CX0 1 C "__eq__" psSO (spNsEq K C)
  le : CalM P w K mg base CX0 1 C "__le__" psSO (spNsLe C)
  or_ : CalM P w K mg base CX0 3 C "__or__" psSO (spNsOp C gOr)
  has : CalM P w K mg base CX0 1 C "__contains__" ["self", "name"] (spNsIn C)
  ne : PySem.W.findIn K (.ref C) "__ne__" = some (some (.builtin "object.__ne__"))
  sf : PySem.W.selfFirst K C = true
theorem NsC.below {H : Hp} {q : Addr} {ms : List Str} (T : NsC K mg C) (h : NSet C H q ms) : NotBelow K C (.ref q) H :=
  let ⟨_, _, h1, _⟩ := h
  ⟨.ref C, T.isi h1, by simp [PySem.W.notFirst]⟩
theorem NSet.ins {H : Hp} {q : Addr} {ms : List Str} (h : NSet C H q ms) : ∃ dx fs, H q = some (.ins C dx fs) := let ⟨dx, _, h1, _⟩ := h; ⟨dx, _, h1⟩
end
end Mf
namespace Mf
open PySem L2
theorem suc_in {rs : List Pr} {kds : List Str} (R : RightP rs) (kc : ∀ z ∈ kds, z ∈ calling) {y z : Str} (s : Suc (pls rs) kds y z) : z ∈ rs.map Pr.name := by
  obtain ⟨ss, h, s, hs, hk, rfl⟩ := s
  unfold pls at h
  obtain ⟨r, hr, e⟩ := List.mem_map.mp h
  cases e
  exact R.ca r hr s hs (kc _ hk)
theorem rch_in {rs : List Pr} {kds sts : List Str} {out : Str → Prop} (R : RightP rs) (kc : ∀ z ∈ kds, z ∈ calling) (hs : ∀ z ∈ sts, z ∈ rs.map Pr.name) {z : Str} (h : Rch (Suc (pls rs) kds) out (· ∈ sts) z) : z ∈ rs.map Pr.name :=
  h.sub (fl := fun z => z ∈ rs.map Pr.name) (fun z a _ => hs z a) fun _ _ _ s _ => suc_in R kc s
theorem few_in {rs : List Pr} {ks : List Str} (R : RightP rs) (nd : ks.Nodup) (h : ∀ z ∈ ks, z ∈ rs.map Pr.name) : ks.length ≤ 16 := by
  have a := nodup_le nd h
  have b := R.few
  rw [List.length_map] at a
  omega
end Mf
namespace Mf
open PySem L2
section
variable {P : Program} {w : World} {K : PySem.W.Frag} {mg : Str → Option Value} {base : Heap} {Cp C : Addr}
/-! ### check_procedure, checked_procedures -/
def spCheck (K : PySem.W.Frag) (Cp : Addr) : Sp := fun vs H Q _ => ∃ (p : Addr) (rs : List Pr) (z : Str), vs = [.ref p, .str z] ∧ Prg K Cp H p rs ∧ z ∈ rs.map Pr.name ∧ Q .non H
abbrev sCheck_procedure : Stmt := top 8
theorem scCheck_procedure : FnScope ["program", "name"] ["program", "name"] (defScope sCheck_procedure) := ⟨rfl, rfl, rfl, by decide +kernel, rfl, by decide +kernel, by decide +kernel⟩
theorem ok_check {f : Addr} {fd : FuncData} (F : Fun K "check_procedure" "check_procedure" sCheck_procedure f fd) (O : PgOps P w K mg base Cp) : FnOk P w K mg base CX0 2 f fd ["program", "name"] (spCheck K Cp) := by
  refine F.ok scCheck_procedure (fun vs H Q E h => ?_) (fun cdv A outer s H vs Q E hr h => ?_)
  · obtain ⟨p, rs, z, rfl, _⟩ := h
    rfl
  · obtain ⟨p, rs, z, rfl, hP, hz, k⟩ := h
    refine ⟨_, (pss_one (ps_if (pt_cmpR (om_notIn O.has hr pass0) (pv 1) (pv 0) (by rfl))
        (pss_one ps_never) pss_nil)), ?_⟩
    obtain ⟨dx, _, _, _, _, _, x, _⟩ := id hP
    refine ⟨_, rfl, _, rfl, p, dx, _, rfl, x.o, p, rs, z, rfl, hP, _, rfl, _, rfl, ?_⟩
    show if (!decide (z ∈ rs.map Pr.name)) = true then _ else _
    rw [decide_eq_true hz]
    exact iteF k
def spCheckeds (K : PySem.W.Frag) (Cp C : Addr) : Sp := fun vs H Q _ => ∃ (p : Addr) (rs : List Pr) (x : V) (xs : List Str), vs = [.ref p, x] ∧ Prg K Cp H p rs ∧ ArgS K C H x xs ∧ xs.length < 4000 ∧ (∀ z ∈ xs, z ∈ rs.map Pr.name) ∧
  ∀ q ms H', NSet C H' q ms → (∀ z, z ∈ ms ↔ z ∈ xs) → Same H H' → Q (.ref q) H'
abbrev sChecked_procedures : Stmt := top 9
theorem scChecked_procedures : FnScope ["program", "names", "known", "name"] ["program", "names"] (defScope sChecked_procedures) := ⟨rfl, rfl, rfl, by decide +kernel, rfl, by decide +kernel, by decide +kernel⟩
theorem ok_checkeds {f : Addr} {fd : FuncData} (F : Fun K "checked_procedures" "checked_procedures" sChecked_procedures f fd) (T : NsC K mg C) (mk1 : CalN P w K mg base C []) (c_check_procedure : Cal P w K mg base CX0 2 "check_procedure" ["program", "name"] (spCheck K Cp)) : FnOk P w K mg base CX0 3 f fd ["program", "names"] (spCheckeds K Cp C) := by
  refine F.ok scChecked_procedures (fun vs H Q E h => ?_) (fun cdv A outer s H vs Q E hr h => ?_)
  · obtain ⟨p, rs, x, xs, rfl, _⟩ := h
    rfl
  · obtain ⟨p, rs, x, xs, rfl, hP, ax, few, hin, k⟩ := h
    have hr_check_procedure := hr
    refine ⟨_, (pss_cons (ps_set (i := 2) scChecked_procedures.nd rfl (by first | exact Or.inl rfl | exact Or.inr rfl) (pe_mkc mk1 hr pass0 (pa_cons (pv 1) pa_nil)))
      (pss_cons (ps_for PassesOwn.never rfl (pi_tup (fldK K (pv 2))) (pg_name (i := 3) scChecked_procedures.nd rfl (by first | exact Or.inl rfl | exact Or.inr rfl))
        (pss_one (ps_expr (pe_cal c_check_procedure hr_check_procedure pass0 (pa_cons (pv 0) (pa_cons (pv 3) pa_nil))))))
      (pss_one (ps_ret (pv 2))))), ?_⟩
    have R := (show RightP rs from let ⟨_, _, _, _, _, _, _, R, _⟩ := hP; R)
    refine ⟨_, rfl, ?_⟩
    intro q dx nq nd _
    refine ⟨q, dx, x, xs, rfl, upd_same, ax.same (ns_grow nq nd), few, fun t ms H1 up m h1 h2 kp => ⟨rfl, ?_⟩⟩
    obtain ⟨N, s1⟩ := ns_after few (fun z hz => names_ok R z (hin z hz)) nq nd up m h1 h2 kp
    refine ⟨_, rfl, q, C, dx, _, _, rfl, h1, T.ins.cl, T.nM, flM_get t, t, rfl, ⟨_, .of h2⟩, ?_⟩
    refine for_it walk_tup (fun i σ H' => ∃ v3 : Option V, σ = [some (.ref p), some x, some (.ref q), v3] ∧ H' = H1) ⟨none, rfl, rfl⟩ (fun i σ H' _ z => by obtain ⟨_, _, rfl⟩ := z; exact .of h2) ?_ ?_
    · rintro i x σ _ H2 hi ⟨v3, rfl, rfl⟩ ⟨rfl, hx⟩
      rw [List.getElem?_map] at hx
      obtain ⟨z, hz, rfl⟩ := Option.map_eq_some_iff.mp hx
      exact ⟨_, rfl, _, rfl, p, rs, z, rfl, hP.same s1, hin z ((m z).mp (List.mem_of_getElem? hz)), _, rfl, rfl⟩
    · rintro σ _ ⟨v3, rfl, rfl⟩
      exact ⟨_, rfl, k q ms _ N m s1⟩

end
end Mf
namespace Mf
open PySem L2
section
variable {P : Program} {w : World} {K : PySem.W.Frag} {mg : Str → Option Value} {base : Heap} {Cp C : Addr}
/-! ### _law_body -/
def spBody : Sp := fun vs H Q _ => ∃ (a : Addr) (ps : List Addr) (rs : List Pr) (r : Pr), vs = [.ref a, .str r.name] ∧ LisP H a ps rs ∧ RightP rs ∧ r ∈ rs ∧ ∀ H', Same H H' → Q (.ref r.b) H'
theorem filter_one : ∀ {rs : List Pr} {r : Pr}, (rs.map Pr.name).Nodup → r ∈ rs → rs.filter (fun q => decide (V.str q.name = V.str r.name)) = [r]
  | [], r, _, h => by cases h
  | a :: rs, r, nd, h => by
    rw [List.map_cons, List.nodup_cons] at nd
    by_cases e : a.name = r.name
    · have hr : r = a := by
        rcases List.mem_cons.mp h with q | q
        · exact q
        · exact absurd (List.mem_map.mpr ⟨r, q, e.symm⟩) nd.1
      subst hr
      rw [List.filter_cons_of_pos (by simp)]
      have : rs.filter (fun q => decide (V.str q.name = V.str r.name)) = [] := List.filter_eq_nil_iff.mpr fun q hq z => nd.1 (List.mem_map.mpr ⟨q, hq, V.str.inj (of_decide_eq_true z)⟩)
      rw [this]
    · rw [List.filter_cons_of_neg (by simpa using e)]
      refine filter_one nd.2 ?_
      rcases List.mem_cons.mp h with q | q
      · subst q; exact absurd rfl e
      · exact q
abbrev sBody : Stmt := top 36
theorem scBody : FnScope ["_law_procedures", "_law_name_here", "_law_each", "_law_body_here"] ["_law_procedures", "_law_name_here"] (defScope sBody) := ⟨rfl, rfl, rfl, by decide +kernel, rfl, by decide +kernel, by decide +kernel⟩
theorem ok_body {f : Addr} {fd : FuncData} (F : Fun K "_law_body" "_law_body" sBody f fd) : FnOk P w K mg base CX0 1 f fd ["_law_procedures", "_law_name_here"] spBody := by
  refine F.ok scBody (fun vs H Q E h => ?_) (fun cdv A outer s H vs Q E hr h => ?_)
  · obtain ⟨a, ps, rs, r, rfl, _⟩ := h
    rfl
  · obtain ⟨a, ps, rs, r, rfl, L, R, hr', k⟩ := h
    have lp : ps.length = rs.length := Paired.length L.2
    refine ⟨_, (pss_one (ps_ret (pe_ix (ixl K) (pe_lc (own := [("_law_each", 2), ("_law_body_here", 3)]) (g := (gTup K 2 (gCons (gName 2) (gCons (gName 3) gNil)))) rfl scBody.nd (pi_list (pv 0)) (blkOk_by (own := [("_law_each", 2), ("_law_body_here", 3)]) (N := ["_law_procedures", "_law_name_here", "_law_each", "_law_body_here"]) (sc := defScope sBody) (by decide +kernel)) (fun _ _ _ _ _ => (pg_tup rfl (pgs_cons (pg_name (i := 2) scBody.nd rfl (by first | exact Or.inl rfl | exact Or.inr rfl)) (pgs_cons (pg_name (i := 3) scBody.nd rfl (by first | exact Or.inl rfl | exact Or.inr rfl)) pgs_nil)))) (fun _ _ _ _ _ => pts_one (pt_cmpR op_eq (pv 2) (pv 1) (nomark _))) (fun _ _ _ _ _ => (pv 3))) pe_int (fun _ _ => rfl)))), ?_⟩
    refine ⟨_, rfl, a, rfl, ⟨_, .of L.1⟩, fun D hD => ?_⟩
    refine lc_it walk_list (fun i H' => Same H H' ∧ H' D = some (.lst (((rs.take i).filter fun q => decide (V.str q.name = V.str r.name)).map fun q => V.ref q.b))) ⟨Same.new hD, upd_same⟩ (fun i H' _ q => .of (q.1 _ _ L.1)) ?_ ?_
    · rintro i x _ H1 hi ⟨s1, h1⟩ ⟨rfl, hx⟩
      rw [List.getElem?_map] at hx
      obtain ⟨p, hp, rfl⟩ := Option.map_eq_some_iff.mp hx
      obtain ⟨q, hq, pa⟩ := paired_get L.2 hp
      have p1 := pa.same s1
      have tk : rs.take (i + 1) = rs.take i ++ [q] := by rw [List.take_add_one, hq]; rfl
      rw [List.length_map, lp] at hi
      refine ⟨p, _, rfl, .of p1.1, rfl, _, _, rfl, _, _, rfl, rfl, rfl, ?_⟩
      refine ⟨_, rfl, _, rfl, rfl, _, rfl, ite2 (fun c => ?_) fun c => ?_⟩
      · refine ⟨_, rfl, _, h1, ?_, s1.mut hD, ?_⟩
        · rw [List.length_map]
          have := R.few
          exact Nat.lt_of_le_of_lt (Nat.le_trans (List.length_filter_le _ _) (List.length_take_le _ _)) (Nat.lt_of_lt_of_le (by omega : i < 17) (by decide))
        · rw [upd_same, tk, List.filter_append, List.filter_cons_of_pos (by exact c), List.filter_nil, List.map_append]
          rfl
      · refine ⟨s1, ?_⟩
        rw [tk, List.filter_append, List.filter_cons_of_neg (by exact c), List.filter_nil, List.append_nil]
        exact h1
    · rintro H1 ⟨s1, h1⟩
      rw [List.length_map, lp, List.take_length, filter_one R.nd hr'] at h1
      exact ⟨D, _, 0, _, rfl, rfl, .of h1, atI_nat (j := 0) rfl, k H1 s1⟩
/-! ### _law_subset -/
def spSubset (K : PySem.W.Frag) : Sp := fun vs H Q _ => ∃ (a r : Addr) (zs : List Str) (n : Nat), vs = [.ref a, .ref r] ∧ r ≠ a ∧ SqL K H r (zs.map V.str) ∧ zs.length ≤ 1000 ∧ Src H a (n + zs.length) ∧
  ∀ (p : Addr) (ys : List Str) (H' : Hp), ys.Sublist zs → H p = none → H' p = some (.lst (ys.map V.str)) → Kp a H H' → Src H' a n → Q (.ref p) H'
abbrev sSubset : Stmt := top 38
theorem scSubset : FnScope ["_law_source_here", "_law_row", "_law_one"] ["_law_source_here", "_law_row"] (defScope sSubset) := ⟨rfl, rfl, rfl, by decide +kernel, rfl, by decide +kernel, by decide +kernel⟩
theorem ok_subset {f : Addr} {fd : FuncData} (F : Fun K "_law_subset" "_law_subset" sSubset f fd) (c_draw : Cal P w K mg base CX0 1 "_law_draw" psD spDraw) : FnOk P w K mg base CX0 2 f fd ["_law_source_here", "_law_row"] (spSubset K) := by
  refine F.ok scSubset (fun vs H Q E h => ?_) (fun cdv A outer s H vs Q E hr h => ?_)
  · obtain ⟨a, r, zs, n, rfl, _⟩ := h
    rfl
  · obtain ⟨a, r, zs, n, rfl, ra, hz, hl, S, k⟩ := h
    have hr_draw := hr
    refine ⟨_, (pss_one (ps_ret (pe_lc (own := [("_law_one", 2)]) (g := (gName 2)) rfl scSubset.nd (pi_list (pv 1)) (blkOk_by (own := [("_law_one", 2)]) (N := ["_law_source_here", "_law_row", "_law_one"]) (sc := defScope sSubset) (by decide +kernel)) (fun _ _ _ _ _ => (pg_name (i := 2) scSubset.nd rfl (by first | exact Or.inl rfl | exact Or.inr rfl))) (fun _ _ _ _ _ => pts_one (pt_cmpR op_eq (pe_cal c_draw hr_draw pass0 (pa_cons (pv 0) (pa_cons pe_int pa_nil))) pe_int (nomark _))) (fun _ _ _ _ _ => (pv 2))))), ?_⟩
    refine ⟨_, rfl, r, rfl, ⟨_, hz⟩, fun D hD => ?_⟩
    have Da : D ≠ a := S.ne hD
    refine lc_it walk_list (fun i H' => ∃ ys : List Str, ys.Sublist (zs.take i) ∧ H' D = some (.lst (ys.map V.str)) ∧ Kp a H H' ∧ Src H' a (n + (zs.length - i))) ⟨[], List.Sublist.refl _, upd_same, Kp.new hD, S.new hD⟩ (fun i H' _ q => q.choose_spec.2.2.1.lst ra hz) ?_ ?_
    · rintro i x H1 _ hi ⟨ys, sb, h1, k1, S1⟩ ⟨rfl, hx⟩
      rw [List.getElem?_map] at hx
      obtain ⟨z, hz', rfl⟩ := Option.map_eq_some_iff.mp hx
      rw [List.length_map] at hi
      have tk : zs.take (i + 1) = zs.take i ++ [z] := by rw [List.take_add_one, hz']; rfl
      refine ⟨rfl, _, rfl, a, 2, n + (zs.length - (i + 1)), rfl, by decide, by decide, S1.mono (by omega), fun v H2 v0 v1 k2 S2 => ⟨rfl, _, rfl, ite2 (fun _ => ?_) fun _ => ?_⟩⟩
      · refine ⟨_, rfl, _, k2 _ _ Da h1, ?_, ys ++ [z], by rw [tk]; exact List.Sublist.append sb (List.Sublist.refl _), by rw [upd_same, List.map_append]; rfl, (k1.trans k2).mut hD, S2.put Da⟩
        rw [List.length_map]
        have q := sb.length_le
        rw [List.length_take] at q
        exact Nat.lt_of_lt_of_le (by omega : ys.length < 1001) (by decide)
      · exact ⟨ys, by rw [tk]; exact sb.trans (List.sublist_append_left _ _), k2 _ _ Da h1, k1.trans k2, S2⟩
    · rintro H1 ⟨ys, sb, h1, k1, S1⟩
      rw [List.length_map, List.take_length] at sb
      exact k D ys H1 sb hD h1 k1 (S1.mono (by omega))

/-! ### _law_spread -/
def spSpread : Sp := fun vs H Q _ => ∃ (a sl kl ol : Addr) (ps : List Addr) (rs : List Pr) (sts kds out : List Str), vs = [.ref a, .ref sl, .ref kl, .ref ol] ∧ LisP H a ps rs ∧ RightP rs ∧ H sl = some (.lst (sts.map V.str)) ∧ sts.Nodup ∧ (∀ z ∈ sts, z ∈ rs.map Pr.name) ∧
  H kl = some (.lst (kds.map V.str)) ∧ (∀ z ∈ kds, z ∈ calling) ∧ H ol = some (.lst (out.map V.str)) ∧
  ∀ q ys H', Up ys → (∀ z, z ∈ ys ↔ Rch (Suc (pls rs) kds) (· ∈ out) (· ∈ sts) z) → H' q = some (.lst (ys.map V.str)) → H q = none → Same H H' → Q (.ref q) H'
def muS (F W : Addr) : L2.St → Hp → Nat := fun _ H => match H F, H W with
  | some (.lst a), some (.lst b) => 13 * (17 - a.length) + b.length
  | _, _ => 0
structure SpI (H0 H : Hp) (F W : Addr) (rs : List Pr) (sts kds out fl wl : List Str) : Prop where
  f : H F = some (.lst (fl.map V.str))
  w : H W = some (.lst (wl.map V.str))
  nd : fl.Nodup
  rf : ∀ z ∈ fl, Rch (Suc (pls rs) kds) (· ∈ out) (· ∈ sts) z
  rw : ∀ z ∈ wl, Rch (Suc (pls rs) kds) (· ∈ out) (· ∈ sts) z
  st : ∀ z ∈ sts, ¬ z ∈ out → z ∈ fl ∨ z ∈ wl
  cl : ∀ y ∈ fl, ∀ z, Suc (pls rs) kds y z → ¬ z ∈ out → z ∈ fl ∨ z ∈ wl
  b : 13 * (17 - fl.length) + wl.length ≤ 300
  s : Same H0 H
abbrev sSpread : Stmt := top 37
theorem scSpread : FnScope ["_law_procedures", "_law_starts", "_law_kinds", "_law_stops", "_law_found", "_law_waiting", "_law_name_here", "_law_kind", "_law_word"] ["_law_procedures", "_law_starts", "_law_kinds", "_law_stops"] (defScope sSpread) := ⟨rfl, rfl, rfl, by decide +kernel, rfl, by decide +kernel, by decide +kernel⟩
set_option maxHeartbeats 1000000 in
theorem ok_spread {f : Addr} {fd : FuncData} (F : Fun K "_law_spread" "_law_spread" sSpread f fd) (c_body : Cal P w K mg base CX0 1 "_law_body" ["_law_procedures", "_law_name_here"] spBody) (mLen : mg "len" = none) (mStr : mg "str" = none) (mSorted : mg "sorted" = none) :
    FnOk P w K mg base CX0 2 f fd ["_law_procedures", "_law_starts", "_law_kinds", "_law_stops"] spSpread := by
  refine F.ok scSpread (fun vs H Q E h => ?_) (fun cdv A outer s H vs Q E hr h => ?_)
  · obtain ⟨a, sl, kl, ol, ps, rs, sts, kds, out, rfl, _⟩ := h
    rfl
  · obtain ⟨a, sl, kl, ol, ps, rs, sts, kds, out, rfl, L, R, hs, nds, sin, hk, kc, ho, k⟩ := h
    have hr_body := hr
    refine ⟨_, (pss_cons (ps_set (i := 4) scSpread.nd rfl (by first | exact Or.inl rfl | exact Or.inr rfl) (pe_lst pa_nil))
      (pss_cons (ps_setLc (i := 5) (own := [("_law_name_here", 6)]) (g := (gName 6)) rfl scSpread.nd rfl rfl (sw_true rfl rfl rfl (by decide +kernel)) (pi_list (pv 1)) (blkOk_by (own := [("_law_name_here", 6)]) (N := ["_law_procedures", "_law_starts", "_law_kinds", "_law_stops", "_law_found", "_law_waiting", "_law_name_here", "_law_kind", "_law_word"]) (sc := defScope sSpread) (by decide +kernel)) (fun _ _ _ _ _ => (pg_name (i := 6) scSpread.nd rfl (by first | exact Or.inl rfl | exact Or.inr rfl))) (fun _ _ _ _ _ => pts_one (pt_cmpR (nin K) (pv 6) (pv 3) (by rfl))) (fun _ _ _ _ _ => (pv 6)))
      (pss_cons (ps_while PassesOwn.never (pt_cmpR op_gt (pe_callB (k_len K) (by rfl) mLen (by decide +kernel) (pa_cons (pv 5) pa_nil)) pe_int (nomark _))
        (pss_cons (ps_set (i := 6) scSpread.nd rfl (by first | exact Or.inl rfl | exact Or.inr rfl) (pe_bm0 PySem.F.plainAttrs_list PySem.F.slot_list_pop PySem.F.type_list_pop mt_pop (pv 5)))
        (pss_one (ps_if (pt_cmpR (nin K) (pv 6) (pv 4) (by rfl))
          (pss_cons (ps_expr (pe_bm PySem.F.plainAttrs_list PySem.F.slot_list_append PySem.F.type_list_append mt_append (pv 4) (pa_cons (pv 6) pa_nil)))
          (pss_one (ps_expr (pe_bm PySem.F.plainAttrs_list PySem.F.slot_list_extend PySem.F.type_list_extend mt_extend (pv 5) (pa_cons (pe_lc (own := [("_law_kind", 7), ("_law_word", 8)]) (g := (gTup K 2 (gCons (gName 7) (gCons (gName 8) gNil)))) rfl scSpread.nd (pi_list (pe_cal c_body hr_body pass0 (pa_cons (pv 0) (pa_cons (pv 6) pa_nil)))) (blkOk_by (own := [("_law_kind", 7), ("_law_word", 8)]) (N := ["_law_procedures", "_law_starts", "_law_kinds", "_law_stops", "_law_found", "_law_waiting", "_law_name_here", "_law_kind", "_law_word"]) (sc := defScope sSpread) (by decide +kernel)) (fun _ _ _ _ _ => (pg_tup rfl (pgs_cons (pg_name (i := 7) scSpread.nd rfl (by first | exact Or.inl rfl | exact Or.inr rfl)) (pgs_cons (pg_name (i := 8) scSpread.nd rfl (by first | exact Or.inl rfl | exact Or.inr rfl)) pgs_nil)))) (fun _ _ _ _ _ => pts_one (PW.pt (pw_and (pt_cmpR (oin K) (pv 7) (pv 2) (by rfl)) (pw_and1 (pt_cmpR (nin K) (pv 8) (pv 3) (by rfl)))))) (fun _ _ _ _ _ => (pv 8))) pa_nil))))) pss_nil))))
      (pss_one (ps_ret (pe_callB (k_sortedS K) (by rfl) mSorted (by decide +kernel) (pa_cons (pe_lc (own := [("_law_name_here", 6)]) (g := (gName 6)) (tt := tYes) rfl scSpread.nd (pi_list (pv 4)) (blkOk_by (own := [("_law_name_here", 6)]) (N := ["_law_procedures", "_law_starts", "_law_kinds", "_law_stops", "_law_found", "_law_waiting", "_law_name_here", "_law_kind", "_law_word"]) (sc := defScope sSpread) (by decide +kernel)) (fun _ _ _ _ _ => (pg_name (i := 6) scSpread.nd rfl (by first | exact Or.inl rfl | exact Or.inr rfl))) (fun _ _ _ _ _ => pts_nil) (fun _ _ _ _ _ => (pe_callTy SkE.call_str_str (by rfl) mStr (by decide +kernel) (pa_cons (pv 6) pa_nil)))) pa_nil))))))), ?_⟩
    refine ⟨(by show 0 ≤ sizeLine; decide), fun F hF => ?_⟩
    have s0 := Same.new (o := .lst []) hF
    refine ⟨_, rfl, sl, rfl, ⟨_, .of (s0 _ _ hs)⟩, fun W hW => ?_⟩
    have WF : W ≠ F := ne_none hW upd_same
    have nW : H W = none := by
      cases e : H W with
      | none => rfl
      | some o => rw [s0 _ _ e] at hW; cases hW
    have few := few_in R nds sin
    refine lc_it walk_list (fun i H' => Same (upd H F (.lst [])) H' ∧ H' W = some (.lst (((sts.take i).filter fun z => decide (¬ z ∈ out)).map V.str))) ⟨Same.new hW, upd_same⟩ (fun i H' _ q => .of (q.1 _ _ (s0 _ _ hs))) ?_ ?_
    · rintro i x _ H1 hi ⟨s1, h1⟩ ⟨rfl, hx⟩
      rw [List.getElem?_map] at hx
      obtain ⟨z, hz, rfl⟩ := Option.map_eq_some_iff.mp hx
      rw [List.length_map] at hi
      have tk : sts.take (i + 1) = sts.take i ++ [z] := by rw [List.take_add_one, hz]; rfl
      refine ⟨rfl, _, rfl, _, rfl, ol, _, rfl, .inl (.of (s1 _ _ (s0 _ _ ho))), rfl, flat_strs _, _, rfl, ?_⟩
      show if (!inV (.str z) (out.map V.str)) = true then _ else _
      rw [inV_str]
      by_cases c : z ∈ out
      · rw [decide_eq_true c]
        refine iteF ⟨s1, ?_⟩
        rw [tk, List.filter_append, List.filter_cons_of_neg (by simpa using c), List.filter_nil, List.append_nil]
        exact h1
      · rw [decide_eq_false c]
        refine iteT ⟨_, rfl, _, h1, ?_, s1.mut hW, ?_⟩
        · rw [List.length_map]
          exact Nat.lt_of_le_of_lt (Nat.le_trans (List.length_filter_le _ _) (List.length_take_le _ _)) (Nat.lt_of_lt_of_le (by omega : i < 17) (by decide))
        · rw [upd_same, tk, List.filter_append, List.filter_cons_of_pos (by simpa using c), List.filter_nil, List.map_append]; rfl
    · rintro H1 ⟨s1, h1⟩
      rw [List.length_map, List.take_length] at h1
      have bb : 13 * (17 - ([] : List Str).length) + (sts.filter fun z => decide (¬ z ∈ out)).length ≤ 300 := by
        have := List.length_filter_le (fun z => decide (¬ z ∈ out)) sts
        show 13 * (17 - 0) + _ ≤ 300
        omega
      have I0 : SpI H H1 F W rs sts kds out [] (sts.filter fun z => decide (¬ z ∈ out)) :=
        ⟨s1 _ _ upd_same, h1, List.nodup_nil, (fun _ h => by cases h), fun z hz => .base (List.mem_filter.mp hz).1 (by simpa using (List.mem_filter.mp hz).2), fun z x y => .inr (List.mem_filter.mpr ⟨x, by simpa using y⟩), (fun _ h => by cases h), bb, s0.trans s1⟩
      generalize (sts.filter fun z => decide (¬ z ∈ out)) = wl0 at I0
      have nF : H F = none := hF
      have big : (400 : Nat) < sizeLine := by decide
      refine while_by (fun σ H' => ∃ (fl wl : List Str) (v6 v7 v8 : Option V), σ = [some (.ref a), some (.ref sl), some (.ref kl), some (.ref ol), some (.ref F), some (.ref W), v6, v7, v8] ∧ SpI H H' F W rs sts kds out fl wl) (muS F W) ⟨[], wl0, none, none, none, rfl, I0⟩ ?_ ?_
      · rintro σ HB ⟨fl, wl, v6, v7, v8, rfl, I⟩
        refine ⟨_, rfl, W, _, rfl, .inl (.of I.w), _, _, rfl, rfl, _, rfl, ?_⟩
        rw [List.length_map]
        rcases List.eq_nil_or_concat wl with e | ⟨wl', y, e⟩
        · subst e
          rw [decide_eq_false (by simp)]
          refine iteF ?_
          have fin : ∀ z ∈ fl, z ∈ rs.map Pr.name := fun z hz => rch_in R kc sin (I.rf z hz)
          have lf := few_in R I.nd fin
          refine ⟨_, rfl, F, rfl, ⟨_, .of I.f⟩, fun D hD => ?_⟩
          refine lc_it walk_list (fun i H' => Same HB H' ∧ H' D = some (.lst ((fl.take i).map V.str))) ⟨Same.new hD, upd_same⟩ (fun i H' _ q => .of (q.1 _ _ I.f)) ?_ ?_
          · rintro i x HC _ hi ⟨sC, hC⟩ ⟨rfl, hx⟩
            rw [List.getElem?_map] at hx
            obtain ⟨z, hz, rfl⟩ := Option.map_eq_some_iff.mp hx
            rw [List.length_map] at hi
            have tk : fl.take (i + 1) = fl.take i ++ [z] := by rw [List.take_add_one, hz]; rfl
            refine ⟨rfl, yes_then ?_⟩
            refine ⟨_, rfl, z, rfl, _, hC, ?_, sC.mut hD, by rw [upd_same, tk, List.map_append]; rfl⟩
            rw [List.length_map]
            exact Nat.lt_of_le_of_lt (List.length_take_le _ _) (by omega)
          · rintro HC ⟨sC, hC⟩
            rw [List.length_map, List.take_length] at hC
            refine ⟨D, fl, rfl, .of hC, (by omega), fun ys q pm so nq => ?_⟩
            have nq0 : H q = none := by
              cases e : H q with
              | none => rfl
              | some o => rw [sC _ _ (I.s _ _ e)] at nq; cases nq
            refine k q ys _ (up_of so (pm.nodup_iff.mpr I.nd)) (fun z => ?_) upd_same nq0 ((I.s.trans sC).trans (Same.new nq))
            rw [pm.mem_iff]
            refine ⟨I.rf z, fun h => ?_⟩
            exact h.sub (fl := fun z => z ∈ fl) (fun z x y => (I.st z x y).resolve_right (by simp)) fun y z hy sz no => (I.cl y hy z sz no).resolve_right (by simp)
        · rw [List.concat_eq_append] at e
          subst e
          rw [decide_eq_true (by rw [List.length_append, List.length_singleton]; omega)]
          refine iteT ?_
          have hlast : ((wl' ++ [y]).map V.str)[((wl' ++ [y]).map V.str).length - 1]? = some (.str y) := by simp
          have hdrop : ((wl' ++ [y]).map V.str).dropLast = wl'.map V.str := by simp
          refine ⟨_, rfl, .inl ⟨rfl, _, .of I.w⟩, W, _, _, rfl, rfl, I.w, hlast, ?_⟩
          rw [hdrop]
          have ry := I.rw y (by simp)
          have s2 : Same H (upd HB W (.lst (wl'.map V.str))) := I.s.mut nW
          have h2 : (upd HB W (.lst (wl'.map V.str))) F = some (.lst (fl.map V.str)) := by rw [upd_ne (Ne.symm WF)]; exact I.f
          have w2 : (upd HB W (.lst (wl'.map V.str))) W = some (.lst (wl'.map V.str)) := upd_same
          have mu1 : muS F W [] HB = 13 * (17 - fl.length) + (wl'.length + 1) := by
            unfold muS
            rw [I.f, I.w]
            simp
          have b1 := I.b
          rw [List.length_append, List.length_singleton] at b1
          generalize upd HB W (.lst (wl'.map V.str)) = H2 at s2 h2 w2
          refine ⟨_, rfl, _, rfl, F, _, rfl, .inl (.of h2), rfl, flat_strs fl, _, rfl, ?_⟩
          show if (!inV (.str y) (fl.map V.str)) = true then _ else _
          rw [inV_str]
          by_cases c : y ∈ fl
          · rw [decide_eq_true c]
            refine iteF ⟨⟨fl, wl', _, _, _, rfl, h2, w2, I.nd, I.rf, fun z hz => I.rw z (List.mem_append_left _ hz), fun z x1 x2 => ?_, fun u hu z sz no => ?_, by omega, s2⟩, ?_⟩
            · rcases I.st z x1 x2 with q | q
              · exact .inl q
              · rcases List.mem_append.mp q with q | q
                · exact .inr q
                · rw [List.mem_singleton.mp q]; exact .inl c
            · rcases I.cl u hu z sz no with q | q
              · exact .inl q
              · rcases List.mem_append.mp q with q | q
                · exact .inr q
                · rw [List.mem_singleton.mp q]; exact .inl c
            · show muS F W [] H2 < muS F W [] HB
              rw [mu1]
              unfold muS
              rw [h2, w2]
              simp only [List.length_map]
              omega
          · rw [decide_eq_false c]
            refine iteT ?_
            have fin : ∀ z ∈ fl, z ∈ rs.map Pr.name := fun z hz => rch_in R kc sin (I.rf z hz)
            have lf := few_in R I.nd fin
            have ndy : (fl ++ [y]).Nodup := List.nodup_append.mpr ⟨I.nd, List.nodup_cons.mpr ⟨by simp, List.nodup_nil⟩, fun x hx u hu e => c (by rw [List.mem_singleton.mp hu] at e; exact e ▸ hx)⟩
            have lf2 := few_in R ndy fun z hz => by
              rcases List.mem_append.mp hz with q | q
              · exact fin z q
              · rw [List.mem_singleton.mp q]; exact rch_in R kc sin ry
            rw [List.length_append, List.length_singleton] at lf2
            refine ⟨_, rfl, .inl ⟨rfl, _, .of h2⟩, _, rfl, F, _, _, rfl, rfl, h2, (by rw [List.length_map]; omega), ?_⟩
            have s3 : Same H (upd H2 F (.lst (fl.map V.str ++ [.str y]))) := s2.mut nF
            have h3 : (upd H2 F (.lst (fl.map V.str ++ [.str y]))) F = some (.lst ((fl ++ [y]).map V.str)) := by rw [upd_same, List.map_append]; rfl
            have w3 : (upd H2 F (.lst (fl.map V.str ++ [.str y]))) W = some (.lst (wl'.map V.str)) := by rw [upd_ne WF]; exact w2
            generalize upd H2 F (.lst (fl.map V.str ++ [.str y])) = H3 at s3 h3 w3
            obtain ⟨r, hrr, ey⟩ := List.mem_map.mp (rch_in R kc sin ry)
            subst ey
            refine ⟨_, rfl, .inl ⟨rfl, _, .of w3⟩, _, rfl, _, rfl, a, ps, rs, r, rfl, L.same s3, R, hrr, fun H4 s4 => ?_⟩
            have h4 := s4 _ _ h3
            have w4 := s4 _ _ w3
            have s04 := s3.trans s4
            obtain ⟨tp, htp⟩ := paired_has L.2 hrr
            have pb := htp.same s04
            refine ⟨r.b, rfl, ⟨_, .of pb.2.1⟩, fun D hD => ?_⟩
            have DF : D ≠ F := ne_none hD h4
            have DW : D ≠ W := ne_none hD w4
            have nD : H D = none := by
              cases e : H D with
              | none => rfl
              | some o => rw [s04 _ _ e] at hD; cases hD
            have l12 := bodyB_len (R.ri r hrr).2.1
            have lts : r.ts.length = r.ss.length := Paired.length pb.2.2
            refine lc_it walk_list (fun i H' => Same H4 H' ∧ H' D = some (.lst ((((r.ss.take i).filter fun s => decide (s.1 ∈ kds ∧ ¬ s.2 ∈ out)).map (·.2)).map V.str))) ⟨Same.new hD, upd_same⟩ (fun i H' _ q => .of (q.1 _ _ pb.2.1)) ?_ ?_
            · rintro i x _ H5 hi ⟨s5, h5⟩ ⟨rfl, hx⟩
              rw [List.getElem?_map] at hx
              obtain ⟨t, ht, rfl⟩ := Option.map_eq_some_iff.mp hx
              obtain ⟨sp, hsp, hts⟩ := pb.2.2.get ht
              rw [List.length_map] at hi
              have tk : r.ss.take (i + 1) = r.ss.take i ++ [sp] := by rw [List.take_add_one, hsp]; rfl
              have nx : ¬ (sp.1 ∈ kds ∧ ¬ sp.2 ∈ out) → H5 D = some (.lst ((((r.ss.take (i + 1)).filter fun s => decide (s.1 ∈ kds ∧ ¬ s.2 ∈ out)).map (·.2)).map V.str)) := fun n => by
                rw [tk, List.filter_append, List.filter_cons_of_neg (by simpa using n), List.filter_nil, List.append_nil]
                exact h5
              refine ⟨t, _, rfl, .of (s5 _ _ hts), rfl, _, _, rfl, _, _, rfl, rfl, rfl, ?_⟩
              refine ⟨_, rfl, _, rfl, kl, _, rfl, .inl (.of (s5 _ _ (s04 _ _ hk))), rfl, flat_strs kds, _, rfl, ?_⟩
              show if inV (.str sp.1) (kds.map V.str) = true then _ else _
              rw [inV_str]
              refine ite2 (fun q1 => ?_) fun q1 => iteF ⟨s5, nx fun z => q1 (decide_eq_true z.1)⟩
              refine ⟨_, rfl, _, rfl, ol, _, rfl, .inl (.of (s5 _ _ (s04 _ _ ho))), rfl, flat_strs out, _, rfl, ?_⟩
              show if (!inV (.str sp.2) (out.map V.str)) = true then _ else _
              rw [inV_str]
              by_cases q2 : sp.2 ∈ out
              · rw [decide_eq_true q2]
                exact iteF ⟨s5, nx fun z => z.2 q2⟩
              · rw [decide_eq_false q2]
                refine iteT ⟨_, rfl, _, h5, ?_, s5.mut hD, ?_⟩
                · rw [List.length_map, List.length_map]
                  exact Nat.lt_of_le_of_lt (Nat.le_trans (List.length_filter_le _ _) (List.length_take_le _ _)) (by omega)
                · rw [upd_same, tk, List.filter_append, List.filter_cons_of_pos (by simpa using ⟨of_decide_eq_true q1, q2⟩), List.filter_nil, List.map_append, List.map_append]; rfl
            · rintro H5 ⟨s5, h5⟩
              rw [List.length_map, lts, List.take_length] at h5
              have lz : ((r.ss.filter fun s => decide (s.1 ∈ kds ∧ ¬ s.2 ∈ out)).map (·.2)).length ≤ 12 := by
                rw [List.length_map]; exact Nat.le_trans (List.length_filter_le _ _) l12
              have mz : ∀ z, z ∈ ((r.ss.filter fun s => decide (s.1 ∈ kds ∧ ¬ s.2 ∈ out)).map (·.2)) ↔ (Suc (pls rs) kds r.name z ∧ ¬ z ∈ out) := fun z => by
                rw [Suc.one (x := pls rs) (by rw [pls_names]; exact R.nd) (List.mem_map.mpr ⟨r, hrr, rfl⟩), List.mem_map]
                constructor
                · rintro ⟨s, hs, rfl⟩
                  have q := of_decide_eq_true (List.mem_filter.mp hs).2
                  exact ⟨⟨s, (List.mem_filter.mp hs).1, q.1, rfl⟩, q.2⟩
                · rintro ⟨⟨s, hs, h1, rfl⟩, h2⟩
                  exact ⟨s, List.mem_filter.mpr ⟨hs, decide_eq_true ⟨h1, h2⟩⟩, rfl⟩
              generalize ((r.ss.filter fun s => decide (s.1 ∈ kds ∧ ¬ s.2 ∈ out)).map (·.2)) = zl at h5 lz mz
              have w5 := s5 _ _ w4
              have h5f := s5 _ _ h4
              refine ⟨W, D, _, _, rfl, rfl, w5, h5, (by rw [List.length_map, List.length_map]; omega), ?_⟩
              have sE : Same H (upd H5 W (.lst (wl'.map V.str ++ zl.map V.str))) := (s04.trans s5).mut nW
              have wE : (upd H5 W (.lst (wl'.map V.str ++ zl.map V.str))) W = some (.lst ((wl' ++ zl).map V.str)) := by rw [upd_same, List.map_append]
              have fE : (upd H5 W (.lst (wl'.map V.str ++ zl.map V.str))) F = some (.lst ((fl ++ [r.name]).map V.str)) := by rw [upd_ne (Ne.symm WF)]; exact h5f
              refine ⟨⟨fl ++ [r.name], wl' ++ zl, _, _, _, rfl, fE, wE, ndy, fun z hz => ?_, fun z hz => ?_, fun z x1 x2 => ?_, fun u hu z sz no => ?_, ?_, sE⟩, ?_⟩
              · rcases List.mem_append.mp hz with q | q
                · exact I.rf z q
                · rw [List.mem_singleton.mp q]; exact ry
              · rcases List.mem_append.mp hz with q | q
                · exact I.rw z (List.mem_append_left _ q)
                · exact .step ry ((mz z).mp q).1 ((mz z).mp q).2
              · rcases I.st z x1 x2 with q | q
                · exact .inl (List.mem_append_left _ q)
                · rcases List.mem_append.mp q with q | q
                  · exact .inr (List.mem_append_left _ q)
                  · exact .inl (List.mem_append_right _ q)
              · rcases List.mem_append.mp hu with q | q
                · rcases I.cl u q z sz no with q | q
                  · exact .inl (List.mem_append_left _ q)
                  · rcases List.mem_append.mp q with q | q
                    · exact .inr (List.mem_append_left _ q)
                    · exact .inl (List.mem_append_right _ q)
                · rw [List.mem_singleton.mp q] at sz
                  exact .inr (List.mem_append_right _ ((mz z).mpr ⟨sz, no⟩))
              · rw [List.length_append, List.length_append, List.length_singleton]; omega
              · show muS F W [] _ < muS F W [] HB
                rw [mu1]
                unfold muS
                rw [fE, wE]
                simp only [List.length_map, List.length_append, List.length_singleton]
                omega
      · rintro σ H' Q Q' m ⟨x, e1, a, ys, e2, h1, i, j, e3, e4, c, e5, q⟩
        exact ⟨x, e1, a, ys, e2, h1, i, j, e3, e4, c, e5, m _ _ q⟩
end
end Mf
/-! The paths that paths_from finds, in their order. -/
namespace Mf
open PySem L2
abbrev Pa := Str × List Str
def bodyOf (x : List Pc) (y : Str) : List Step := ((x.find? fun p => decide (p.1 = y)).map (·.2)).getD []
theorem bodyOf_mem {x : List Pc} (nd : (x.map (·.1)).Nodup) {y : Str} {ss : List Step} (h : (y, ss) ∈ x) : bodyOf x y = ss := by
  unfold bodyOf
  induction x with
  | nil => cases h
  | cons p x ih =>
    rw [List.map_cons, List.nodup_cons] at nd
    rcases List.mem_cons.mp h with e | h
    · rw [← e, List.find?_cons_of_pos (p := fun p : Pc => decide (p.1 = y)) (decide_eq_true rfl)]; rfl
    · have ne : p.1 ≠ y := fun e => nd.1 (by rw [e]; exact List.mem_map.mpr ⟨_, h, rfl⟩)
      rw [List.find?_cons_of_neg (p := fun p : Pc => decide (p.1 = y)) (by simpa using ne)]
      exact ih nd.2 h
theorem bodyOf_no {x : List Pc} {y : Str} (h : ¬ y ∈ x.map (·.1)) : bodyOf x y = [] := by
  unfold bodyOf
  rw [List.find?_eq_none.mpr fun p hp => by
    have : p.1 ≠ y := fun e => h (List.mem_map.mpr ⟨p, hp, e⟩)
    simpa using this]
  rfl
def putP (kds out : List Str) (path : List Str) (acc : List Pa) (s : Step) : List Pa :=
  if s.1 ∈ kds ∧ ¬ s.2 ∈ out ∧ ¬ s.2 ∈ acc.map (·.1) then acc ++ [(s.2, path ++ [s.2])] else acc
def visP (kds out : List Str) (path : List Str) : List Pa → List Step → List Pa
  | acc, [] => acc
  | acc, s :: ss => visP kds out path (putP kds out path acc s) ss
def growP (body : Str → List Step) (kds out : List Str) : Nat → Nat → List Pa → List Pa
  | 0, _, acc => acc
  | n + 1, j, acc => match acc[j]? with
    | none => acc
    | some e => growP body kds out n (j + 1) (visP kds out e.2 acc (body e.1))
def startP (out sts : List Str) : List Pa := (sts.filter fun z => decide (¬ z ∈ out)).map fun z => (z, [z])
def pathsN (x : List Pc) (kds out sts : List Str) : List Pa := growP (bodyOf x) kds out 17 0 (startP out sts)
theorem growP_end {body : Str → List Step} {kds out : List Str} {n j : Nat} {acc : List Pa} (h : acc.length ≤ j) : growP body kds out n j acc = acc := by
  cases n with
  | zero => rfl
  | succ n => unfold growP; rw [List.getElem?_eq_none h]
theorem growP_step {body : Str → List Step} {kds out : List Str} {n j : Nat} {acc : List Pa} {e : Pa} (h : acc[j]? = some e) : growP body kds out (n + 1) j acc = growP body kds out n (j + 1) (visP kds out e.2 acc (body e.1)) := by
  show (match acc[j]? with | none => acc | some e => _) = _
  rw [h]
theorem putP_pre {kds out path : List Str} {acc : List Pa} (s : Step) : ∃ e, putP kds out path acc s = acc ++ e := by
  unfold putP
  split
  · exact ⟨_, rfl⟩
  · exact ⟨[], (List.append_nil _).symm⟩
theorem visP_pre {kds out path : List Str} : ∀ (ss : List Step) (acc : List Pa), ∃ e, visP kds out path acc ss = acc ++ e
  | [], acc => ⟨[], (List.append_nil _).symm⟩
  | s :: ss, acc => by
    obtain ⟨e1, h1⟩ := putP_pre (kds := kds) (out := out) (path := path) (acc := acc) s
    obtain ⟨e2, h2⟩ := visP_pre ss (putP kds out path acc s)
    exact ⟨e1 ++ e2, by show visP kds out path (putP kds out path acc s) ss = _; rw [h2, h1, List.append_assoc]⟩
theorem growP_pre {body : Str → List Step} {kds out : List Str} : ∀ (n j : Nat) (acc : List Pa), ∃ e, growP body kds out n j acc = acc ++ e
  | 0, j, acc => ⟨[], (List.append_nil _).symm⟩
  | n + 1, j, acc => by
    cases h : acc[j]? with
    | none => exact ⟨[], by unfold growP; rw [h, List.append_nil]⟩
    | some e =>
      rw [growP_step h]
      obtain ⟨e1, h1⟩ := visP_pre (kds := kds) (out := out) (path := e.2) (body e.1) acc
      obtain ⟨e2, h2⟩ := growP_pre (body := body) (kds := kds) (out := out) n (j + 1) (visP kds out e.2 acc (body e.1))
      exact ⟨e1 ++ e2, by rw [h2, h1, List.append_assoc]⟩
/-- what holds of the start and stays along the steps holds of all that is found -/
theorem putP_all {kds out path : List Str} {acc : List Pa} {s : Step} {p : Pa → Prop} (h : ∀ e ∈ acc, p e) (hs : s.1 ∈ kds → ¬ s.2 ∈ out → p (s.2, path ++ [s.2])) : ∀ e ∈ putP kds out path acc s, p e := by
  unfold putP
  split
  · rename_i c
    intro e he
    rcases List.mem_append.mp he with q | q
    · exact h e q
    · rw [List.mem_singleton.mp q]; exact hs c.1 c.2.1
  · exact h
theorem visP_all {kds out path : List Str} {p : Pa → Prop} : ∀ {ss : List Step} {acc : List Pa}, (∀ e ∈ acc, p e) → (∀ s ∈ ss, s.1 ∈ kds → ¬ s.2 ∈ out → p (s.2, path ++ [s.2])) → ∀ e ∈ visP kds out path acc ss, p e
  | [], acc, h, _ => h
  | s :: ss, acc, h, hs => visP_all (ss := ss) (putP_all h (hs s List.mem_cons_self)) fun s' h' => hs s' (List.mem_cons_of_mem _ h')
theorem growP_all {body : Str → List Step} {kds out : List Str} {p : Pa → Prop} (hs : ∀ e, p e → ∀ s ∈ body e.1, s.1 ∈ kds → ¬ s.2 ∈ out → p (s.2, e.2 ++ [s.2])) : ∀ {n j : Nat} {acc : List Pa}, (∀ e ∈ acc, p e) → ∀ e ∈ growP body kds out n j acc, p e
  | 0, j, acc, h => h
  | n + 1, j, acc, h => by
    cases e : acc[j]? with
    | none => unfold growP; rw [e]; exact h
    | some y =>
      rw [growP_step e]
      exact growP_all hs (visP_all h (hs y (h y (List.mem_of_getElem? e))))
/-! ### what fails -/
def firstRead (br : List Str) (ss : List Step) : Option Str := (ss.find? fun s => decide (s.1 = ("read" : Str)) && decide (s.2 ∈ br)).map fun s => s.2
def failIn (x : List Pc) (br : List Str) : List Pa → Option (List Str × Str)
  | [] => none
  | e :: es => match firstRead br (bodyOf x e.1) with
    | some d => some (e.2, d)
    | none => failIn x br es
def requiring : List Str := ["call"]
def failN (x : List Pc) (y : Str) (br out : List Str) : Option (List Str × Str) := failIn x br (pathsN x requiring out [y])
end Mf
/-! A fresh run, as a pure function: what is known, and the events. -/
namespace Mf
open PySem L2
/-- what a name is known as -/
abbrev Kn := Str → Option Str
abbrev Ev := List Str
def setK (kn : Kn) (y v : Str) : Kn := fun z => if z = y then some v else kn z
/-- a step of the run, where `ask` calls a procedure -/
def stepN (ask : Str → Kn × List Ev → Kn × List Ev) (y : Str) (s : Step) (st : Kn × List Ev) : Kn × List Ev :=
  if s.1 = ("read" : Str) then (st.1, st.2 ++ [[("read" : Str), y, s.2]])
  else if s.1 ∈ (["call", "try"] : List Str) then
    match st.1 s.2 with
    | some v => ask s.2 (st.1, st.2 ++ [[v, y, s.2]])
    | none => ask s.2 st
  else st
def stepsN (ask : Str → Kn × List Ev → Kn × List Ev) (y : Str) : List Step → Kn × List Ev → Kn × List Ev
  | [], st => st
  | s :: ss, st => stepsN ask y ss (stepN ask y s st)
def askN (body : Str → List Step) : Nat → Str → Kn × List Ev → Kn × List Ev
  | 0, _, st => st
  | n + 1, y, st => match st.1 y with
    | some _ => st
    | none =>
      let st2 := stepsN (askN body n) y (body y) (setK st.1 y "cycle", st.2 ++ [[("start" : Str), y]])
      (setK st2.1 y "reuse", st2.2 ++ [[("end" : Str), y]])
/-- how many of the names are not known -/
def unk (ns : List Str) (kn : Kn) : Nat := (ns.filter fun z => (kn z).isNone).length
theorem unk_le {ns : List Str} {kn kn' : Kn} (h : ∀ z, (kn z).isSome = true → (kn' z).isSome = true) : unk ns kn' ≤ unk ns kn := by
  unfold unk
  induction ns with
  | nil => exact Nat.le_refl _
  | cons z zs ih =>
    have hz := h z
    cases q : kn z with
    | none =>
      rw [List.filter_cons_of_pos (p := fun z => (kn z).isNone) (by rw [q]; rfl), List.length_cons]
      cases q2 : kn' z with
      | none =>
        rw [List.filter_cons_of_pos (p := fun z => (kn' z).isNone) (by rw [q2]; rfl), List.length_cons]; omega
      | some v =>
        rw [List.filter_cons_of_neg (p := fun z => (kn' z).isNone) (by rw [q2]; simp)]; omega
    | some v =>
      rw [q] at hz
      cases q2 : kn' z with
      | none => rw [q2] at hz; exact absurd (hz rfl) (by simp)
      | some v2 => rw [List.filter_cons_of_neg (p := fun z => (kn' z).isNone) (by rw [q2]; simp), List.filter_cons_of_neg (p := fun z => (kn z).isNone) (by rw [q]; simp)]; exact ih
theorem setK_some {kn : Kn} {y v z : Str} (h : (kn z).isSome = true) : (setK kn y v z).isSome = true := by
  unfold setK; split
  · rfl
  · exact h
theorem setK_same {kn : Kn} {y v : Str} : setK kn y v y = some v := if_pos rfl
theorem unk_set {ns : List Str} {kn : Kn} {y v : Str} (m : y ∈ ns) (n : kn y = none) : unk ns (setK kn y v) + 1 ≤ unk ns kn := by
  unfold unk
  induction ns with
  | nil => cases m
  | cons z zs ih =>
    by_cases e : z = y
    · subst e
      have c1 : ¬ ((setK kn z v z).isNone = true) := by rw [setK_same]; simp
      have c2 : (kn z).isNone = true := by rw [n]; rfl
      rw [List.filter_cons_of_neg (p := fun x => (setK kn z v x).isNone) c1, List.filter_cons_of_pos (p := fun x => (kn x).isNone) c2, List.length_cons]
      have := unk_le (ns := zs) (kn := kn) (kn' := setK kn z v) fun _ h => setK_some h
      unfold unk at this
      omega
    · have m2 : y ∈ zs := (List.mem_cons.mp m).resolve_left fun q => e q.symm
      have ih := ih m2
      have es : setK kn y v z = kn z := if_neg e
      cases q : kn z with
      | none =>
        rw [List.filter_cons_of_pos (p := fun x => (setK kn y v x).isNone) (by rw [es, q]; rfl), List.filter_cons_of_pos (p := fun x => (kn x).isNone) (by rw [q]; rfl), List.length_cons, List.length_cons]; omega
      | some u =>
        rw [List.filter_cons_of_neg (p := fun x => (setK kn y v x).isNone) (by rw [es, q]; simp), List.filter_cons_of_neg (p := fun x => (kn x).isNone) (by rw [q]; simp)]; exact ih
theorem unk_pos {ns : List Str} {kn : Kn} {y : Str} (m : y ∈ ns) (n : kn y = none) : 0 < unk ns kn := by
  have := unk_set (v := "x") m n
  omega
theorem stepN_mono {ask : Str → Kn × List Ev → Kn × List Ev} (ha : ∀ y st z, (st.1 z).isSome = true → ((ask y st).1 z).isSome = true) {y : Str} {s : Step} {st : Kn × List Ev} {z : Str} (h : (st.1 z).isSome = true) : ((stepN ask y s st).1 z).isSome = true := by
  unfold stepN
  split
  · exact h
  · split
    · split
      · exact ha _ _ _ h
      · exact ha _ _ _ h
    · exact h
theorem stepsN_mono {ask : Str → Kn × List Ev → Kn × List Ev} (ha : ∀ y st z, (st.1 z).isSome = true → ((ask y st).1 z).isSome = true) {y z : Str} : ∀ {ss : List Step} {st : Kn × List Ev}, (st.1 z).isSome = true → ((stepsN ask y ss st).1 z).isSome = true
  | [], _, h => h
  | s :: ss, st, h => stepsN_mono ha (ss := ss) (stepN_mono ha h)
theorem askN_mono {body : Str → List Step} : ∀ {n : Nat} {y : Str} {st : Kn × List Ev} {z : Str}, (st.1 z).isSome = true → ((askN body n y st).1 z).isSome = true
  | 0, _, _, _, h => h
  | n + 1, y, st, z, h => by
    unfold askN
    cases st.1 y with
    | some v => exact h
    | none => exact setK_some (stepsN_mono (fun _ _ _ q => askN_mono q) (setK_some h))
theorem askN_known {body : Str → List Step} {n : Nat} {y v : Str} {st : Kn × List Ev} (h : st.1 y = some v) : askN body n y st = st := by
  cases n with
  | zero => rfl
  | succ n => unfold askN; rw [h]
end Mf
namespace Mf
open PySem L2
/-! ### the class FreshRun -/
def flF (pg e d : Addr) : List (Str × V) := putF "known" (.ref d) (putF "events" (.ref e) (putF "program" (.ref pg) []))
theorem flF_p (pg e d : Addr) : (flF pg e d).lookup ("program" : Str) = some (.ref pg) := by
  unfold flF
  rw [lookup_putF, if_neg (by decide), lookup_putF, if_neg (by decide), lookup_putF, if_pos rfl]
theorem flF_e (pg e d : Addr) : (flF pg e d).lookup ("events" : Str) = some (.ref e) := by
  unfold flF
  rw [lookup_putF, if_neg (by decide), lookup_putF, if_pos rfl]
theorem flF_k (pg e d : Addr) : (flF pg e d).lookup ("known" : Str) = some (.ref d) := by
  unfold flF
  rw [lookup_putF, if_pos rfl]
theorem flF_no {pg e d : Addr} {m : Str} (h1 : m ≠ "known") (h2 : m ≠ "events") (h3 : m ≠ "program") : (flF pg e d).lookup m = none := by
  unfold flF
  rw [lookup_putF, if_neg h1, lookup_putF, if_neg h2, lookup_putF, if_neg h3]; rfl
structure FrC (K : PySem.W.Frag) (mg : Str → Option Value) (C : Addr) : Prop where
  ins : C8.InsC K C
  nP : NoAttr K C "program"
  nE : NoAttr K C "events"
  nK : NoAttr K C "known"
  mgC : mg "FreshRun" = some (.ref C)
def EvA (H : Hp) (t : Addr) (x : Ev) : Prop := H t = some (.tup (x.map V.str))
/-- a dict of what is known -/
structure KnA (kvs : List (Key × V)) (ns : List Str) (kn : Kn) : Prop where
  val : ∀ z, valV kvs (Sum.inr z) = (kn z).map V.str
  keys : ∃ ks : List Str, kvs.map (·.1) = ks.map Sum.inr ∧ ks.Nodup ∧ ∀ z ∈ ks, z ∈ ns
theorem KnA.few {kvs : List (Key × V)} {rs : List Pr} {kn : Kn} (R : RightP rs) (h : KnA kvs (rs.map Pr.name) kn) : kvs.length ≤ 16 := by
  obtain ⟨ks, e, nd, inn⟩ := h.keys
  have := few_in R nd inn
  have := congrArg List.length e
  rw [List.length_map, List.length_map] at this
  omega
theorem KnA.set {kvs : List (Key × V)} {ns : List Str} {kn : Kn} (h : KnA kvs ns kn) {y v : Str} (m : y ∈ ns) : KnA (putK kvs (Sum.inr y) (.str v)) ns (setK kn y v) := by
  obtain ⟨ks, e, nd, inn⟩ := h.keys
  cases q : valV kvs (Sum.inr y) with
  | none =>
    have kq : kn y = none := by have := h.val y; rw [q] at this; cases c : kn y with
      | none => rfl
      | some u => rw [c] at this; cases this
    have ny : ¬ y ∈ ks := fun m2 => by
      have m3 : (Sum.inr y : Key) ∈ kvs.map (·.1) := by rw [e]; exact List.mem_map.mpr ⟨y, m2, rfl⟩
      obtain ⟨kv, h1, h2⟩ := List.mem_map.mp m3
      unfold valV at q
      have := List.find?_eq_none.mp (Option.map_eq_none_iff.mp q) kv h1
      exact this (decide_eq_true h2)
    rw [putK_new _ q]
    refine ⟨fun z => ?_, ks ++ [y], by rw [List.map_append, List.map_append, e]; rfl, List.nodup_append.mpr ⟨nd, by simp, fun a ha b hb r => ny (by rw [← List.mem_singleton.mp hb, ← r]; exact ha)⟩, fun z hz => ?_⟩
    · unfold setK valV
      rw [List.find?_append]
      by_cases c : z = y
      · subst c
        unfold valV at q
        rw [Option.map_eq_none_iff] at q
        rw [q, if_pos rfl]
        simp
      · have hv := h.val z
        unfold valV at hv
        rw [if_neg c, ← hv]
        have ne : ¬ (Sum.inr y : Key) = Sum.inr z := fun r => c (Sum.inr.inj r).symm
        cases f : kvs.find? (fun kv => decide (kv.1 = Sum.inr z)) with
        | none => simp [ne]
        | some u => simp
    · rcases List.mem_append.mp hz with r | r
      · exact inn z r
      · rw [List.mem_singleton.mp r]; exact m
  | some u =>
    have an : kvs.any (fun kv => decide (kv.1 = Sum.inr y)) = true := by
      unfold valV at q
      obtain ⟨kv, h1, h2⟩ := Option.map_eq_some_iff.mp q
      exact List.any_eq_true.mpr ⟨kv, List.mem_of_find?_eq_some h1, List.find?_some (p := fun kv : Key × V => decide (kv.1 = Sum.inr y)) h1⟩
    have ep : putK kvs (Sum.inr y) (.str v) = kvs.map (fun kv => if kv.1 = Sum.inr y then (kv.1, V.str v) else kv) := by unfold putK; rw [if_pos an]
    rw [ep]
    have k1 : (kvs.map (fun kv => if kv.1 = Sum.inr y then (kv.1, V.str v) else kv)).map (·.1) = kvs.map (·.1) := by
      rw [List.map_map]
      exact List.map_congr_left fun kv _ => by
        show (if kv.1 = Sum.inr y then (kv.1, V.str v) else kv).1 = kv.1
        split <;> rfl
    refine ⟨fun z => ?_, ks, by rw [k1]; exact e, nd, inn⟩
    unfold setK
    have go : ∀ l : List (Key × V), valV (l.map (fun kv => if kv.1 = Sum.inr y then (kv.1, V.str v) else kv)) (Sum.inr z) = if z = y then (if l.any (fun kv => decide (kv.1 = Sum.inr y)) = true then some (V.str v) else none) else valV l (Sum.inr z) := by
      intro l
      induction l with
      | nil => by_cases c : z = y <;> simp [valV, c]
      | cons kv l ih =>
        unfold valV at ih ⊢
        rw [List.map_cons, List.find?_cons]
        by_cases c2 : kv.1 = Sum.inr y
        · rw [if_pos c2]
          by_cases c : z = y
          · subst c
            simp [c2]
          · have ne : ¬ (kv.1 = Sum.inr z) := fun r => c (Sum.inr.inj (r.symm.trans c2))
            rw [if_neg c]
            rw [if_neg c] at ih
            simp only [decide_eq_false ne]
            rw [ih, List.find?_cons, decide_eq_false ne]
        · rw [if_neg c2]
          by_cases c3 : kv.1 = Sum.inr z
          · have c : ¬ z = y := fun r => c2 (by rw [c3, r])
            rw [if_neg c, List.find?_cons, decide_eq_true c3]
          · simp only [decide_eq_false c3]
            rw [ih]
            by_cases c : z = y
            · rw [if_pos c, if_pos c, List.any_cons, decide_eq_false c2, Bool.false_or]
            · rw [if_neg c, if_neg c, List.find?_cons, decide_eq_false c3]
    rw [go kvs, an, if_pos rfl]
    by_cases c : z = y
    · rw [if_pos c, if_pos c]; rfl
    · rw [if_neg c, if_neg c]; exact h.val z
/-- a run stands at p; what stood at H0 stays -/
structure RunA (K : PySem.W.Frag) (Cp CF : Addr) (H0 H : Hp) (p pg e d : Addr) (rs : List Pr) (st : Kn × List Ev) : Prop where
  o : ∃ dx, H p = some (.ins CF dx (flF pg e d))
  g : Prg K Cp H0 pg rs
  e0 : H0 e = none
  d0 : H0 d = none
  s : Same H0 H
  k : ∃ kvs, H d = some (.dK kvs) ∧ KnA kvs (rs.map Pr.name) st.1
  v : ∃ ts, H e = some (.lst (ts.map V.ref)) ∧ Paired (EvA H) ts st.2
theorem RunA.same {K : PySem.W.Frag} {Cp CF : Addr} {H0 H H' : Hp} {p pg e d : Addr} {rs : List Pr} {st : Kn × List Ev} (x : RunA K Cp CF H0 H p pg e d rs st) (s : Same H H') : RunA K Cp CF H0 H' p pg e d rs st := by
  obtain ⟨dx, o⟩ := x.o
  obtain ⟨kvs, k1, k2⟩ := x.k
  obtain ⟨ts, v1, v2⟩ := x.v
  exact ⟨⟨dx, s _ _ o⟩, x.g, x.e0, x.d0, x.s.trans s, ⟨kvs, s _ _ k1, k2⟩, ⟨ts, s _ _ v1, paired_same v2 fun _ _ q => s _ _ q⟩⟩
theorem RunA.prg {K : PySem.W.Frag} {Cp CF : Addr} {H0 H : Hp} {p pg e d : Addr} {rs : List Pr} {st : Kn × List Ev} (x : RunA K Cp CF H0 H p pg e d rs st) : Prg K Cp H pg rs := x.g.same x.s
theorem RunA.set {K : PySem.W.Frag} {Cp CF : Addr} {H0 H : Hp} {p pg e d : Addr} {rs : List Pr} {st : Kn × List Ev} (x : RunA K Cp CF H0 H p pg e d rs st) {kvs : List (Key × V)} (h : H d = some (.dK kvs)) {y v : Str} (m : y ∈ rs.map Pr.name) : RunA K Cp CF H0 (upd H d (.dK (putK kvs (Sum.inr y) (.str v)))) p pg e d rs (setK st.1 y v, st.2) := by
  obtain ⟨dx, o⟩ := x.o
  obtain ⟨kvs', k1, k2⟩ := x.k
  rw [h] at k1
  cases k1
  obtain ⟨ts, v1, v2⟩ := x.v
  have pd : p ≠ d := fun q => by rw [q, h] at o; cases o
  have ed : e ≠ d := fun q => by rw [q, h] at v1; cases v1
  refine ⟨⟨dx, by rw [upd_ne pd]; exact o⟩, x.g, x.e0, x.d0, x.s.mut x.d0, ⟨_, upd_same, k2.set m⟩, ⟨ts, by rw [upd_ne ed]; exact v1, paired_same v2 fun t _ q => ?_⟩⟩
  show _ = _
  rw [upd_ne (fun r => by unfold EvA at q; rw [r, h] at q; cases q)]; exact q
theorem RunA.add {K : PySem.W.Frag} {Cp CF : Addr} {H0 H : Hp} {p pg e d : Addr} {rs : List Pr} {st : Kn × List Ev} (x : RunA K Cp CF H0 H p pg e d rs st) {ts : List Addr} (h : H e = some (.lst (ts.map V.ref))) {t : Addr} (ht : H t = none) {ev : Ev} {vs : List V} (ev' : vs = ev.map V.str) : RunA K Cp CF H0 (upd (upd H t (.tup vs)) e (.lst (ts.map V.ref ++ [.ref t]))) p pg e d rs (st.1, st.2 ++ [ev]) := by
  subst ev'
  have s1 := Same.new (o := .tup (ev.map V.str)) ht
  have te : t ≠ e := ne_none ht h
  obtain ⟨dx, o⟩ := x.o
  obtain ⟨kvs, k1, k2⟩ := x.k
  obtain ⟨ts', v1, v2⟩ := x.v
  rw [h] at v1
  have v1 := HO.lst.inj (Option.some.inj v1)
  have et : ts = ts' := by
    have : ∀ {a b : List Addr}, a.map V.ref = b.map V.ref → a = b := fun {a b} q => List.map_inj_right (fun _ _ r => V.ref.inj r) |>.mp q
    exact this v1
  subst et
  have pe : p ≠ e := fun q => by rw [q, h] at o; cases o
  have de : d ≠ e := fun q => by rw [q, h] at k1; cases k1
  refine ⟨⟨dx, by rw [upd_ne pe]; exact s1 _ _ o⟩, x.g, x.e0, x.d0, (x.s.trans s1).mut x.e0, ⟨kvs, by rw [upd_ne de]; exact s1 _ _ k1, k2⟩, ⟨ts ++ [t], by rw [upd_same, List.map_append]; rfl, ?_⟩⟩
  refine paired_snoc (paired_same v2 fun u _ q => ?_) ?_
  · show _ = _
    rw [upd_ne (fun r => by unfold EvA at q; rw [r, h] at q; cases q)]; exact s1 _ _ q
  · show _ = _
    rw [upd_ne te]; exact upd_same
/-- what the events may cost -/
def cst (ns : List Str) (st : Kn × List Ev) : Nat := st.2.length + 14 * unk ns st.1
structure BodyOk (ns : List Str) (body : Str → List Step) : Prop where
  len : ∀ z ∈ ns, (body z).length ≤ 12
  ca : ∀ z ∈ ns, ∀ s ∈ body z, s.1 ∈ (["call", "try"] : List Str) → s.2 ∈ ns
theorem step_cost {ns : List Str} {ask : Str → Kn × List Ev → Kn × List Ev} (ha : ∀ y st, y ∈ ns → cst ns (ask y st) ≤ cst ns st) {y : Str} {s : Step} {st : Kn × List Ev} (h : s.1 ∈ (["call", "try"] : List Str) → s.2 ∈ ns) : cst ns (stepN ask y s st) ≤ cst ns st + 1 := by
  unfold stepN
  split
  · unfold cst
    show (st.2 ++ [_]).length + 14 * unk ns st.1 ≤ _
    rw [List.length_append, List.length_singleton]; omega
  · split
    · rename_i c
      split
      · refine Nat.le_trans (ha _ _ (h c)) ?_
        unfold cst
        show (st.2 ++ [_]).length + 14 * unk ns st.1 ≤ _
        rw [List.length_append, List.length_singleton]; omega
      · exact Nat.le_trans (ha _ _ (h c)) (by omega)
    · omega
theorem steps_cost {ns : List Str} {ask : Str → Kn × List Ev → Kn × List Ev} (ha : ∀ y st, y ∈ ns → cst ns (ask y st) ≤ cst ns st) {y : Str} : ∀ {ss : List Step} {st : Kn × List Ev}, (∀ s ∈ ss, s.1 ∈ (["call", "try"] : List Str) → s.2 ∈ ns) → cst ns (stepsN ask y ss st) ≤ cst ns st + ss.length
  | [], _, _ => Nat.le_refl _
  | s :: ss, st, h => by
    have a := step_cost ha (y := y) (st := st) (h s List.mem_cons_self)
    have b := steps_cost ha (y := y) (ss := ss) (st := stepN ask y s st) fun s' h' => h s' (List.mem_cons_of_mem _ h')
    show cst ns (stepsN ask y ss (stepN ask y s st)) ≤ _
    rw [List.length_cons]; omega
theorem ask_cost {ns : List Str} {body : Str → List Step} (B : BodyOk ns body) : ∀ {n : Nat} {y : Str} {st : Kn × List Ev}, y ∈ ns → cst ns (askN body n y st) ≤ cst ns st
  | 0, _, _, _ => Nat.le_refl _
  | n + 1, y, st, m => by
    cases q : st.1 y with
    | some v => rw [askN_known q]; exact Nat.le_refl _
    | none =>
      have e : askN body (n + 1) y st = (setK (stepsN (askN body n) y (body y) (setK st.1 y "cycle", st.2 ++ [[("start" : Str), y]])).1 y "reuse", (stepsN (askN body n) y (body y) (setK st.1 y "cycle", st.2 ++ [[("start" : Str), y]])).2 ++ [[("end" : Str), y]]) := by
        show (match st.1 y with | some _ => st | none => _) = _
        rw [q]
      rw [e]
      have c := steps_cost (ns := ns) (ask := askN body n) (fun y st m => ask_cost B m) (y := y) (st := (setK st.1 y "cycle", st.2 ++ [[("start" : Str), y]])) (B.ca y m)
      have l := B.len y m
      have u := unk_set (ns := ns) (kn := st.1) (v := "cycle") m q
      have u2 := unk_le (ns := ns) (kn := (stepsN (askN body n) y (body y) (setK st.1 y "cycle", st.2 ++ [[("start" : Str), y]])).1) (kn' := setK (stepsN (askN body n) y (body y) (setK st.1 y "cycle", st.2 ++ [[("start" : Str), y]])).1 y "reuse") fun _ h => setK_some h
      unfold cst at c ⊢
      simp only [List.length_append, List.length_singleton] at c ⊢
      omega
end Mf
namespace Mf
open PySem L2
theorem stepsN_snoc {ask : Str → Kn × List Ev → Kn × List Ev} {y : Str} {s : Step} : ∀ (ss : List Step) (st : Kn × List Ev), stepsN ask y (ss ++ [s]) st = stepN ask y s (stepsN ask y ss st)
  | [], _ => rfl
  | s' :: ss, st => stepsN_snoc ss (stepN ask y s' st)
theorem RightP.bodyOk {rs : List Pr} (R : RightP rs) : BodyOk (rs.map Pr.name) (bodyOf (pls rs)) := by
  have bo : ∀ r ∈ rs, bodyOf (pls rs) r.name = r.ss := fun r hr => bodyOf_mem (x := pls rs) (ss := r.ss) (by rw [pls_names]; exact R.nd) (List.mem_map.mpr ⟨r, hr, rfl⟩)
  refine ⟨fun z hz => ?_, fun z hz s hs c => ?_⟩
  · obtain ⟨r, hr, rfl⟩ := List.mem_map.mp hz
    rw [bo r hr]
    exact bodyB_len (R.ri r hr).2.1
  · obtain ⟨r, hr, rfl⟩ := List.mem_map.mp hz
    rw [bo r hr] at hs
    exact R.ca r hr s hs c
section
variable {P : Program} {w : World} {K : PySem.W.Frag} {mg : Str → Option Value} {base : Heap} {Cp C CF : Addr}
/-! ### ask, step -/
def spAsk (K : PySem.W.Frag) (Cp CF : Addr) (n : Nat) : Sp := fun vs H Q _ => ∃ (H0 : Hp) (p pg e d : Addr) (rs : List Pr) (y : Str) (st : Kn × List Ev), vs = [.ref p, .str y] ∧ RunA K Cp CF H0 H p pg e d rs st ∧ y ∈ rs.map Pr.name ∧ (st.1 y = none → unk (rs.map Pr.name) st.1 ≤ n) ∧ cst (rs.map Pr.name) st ≤ 2000 ∧
  ∀ H', RunA K Cp CF H0 H' p pg e d rs (askN (bodyOf (pls rs)) n y st) → SameT H H' → Q .non H'
def spRStep (K : PySem.W.Frag) (Cp CF : Addr) (n : Nat) : Sp := fun vs H Q _ => ∃ (H0 : Hp) (p pg e d : Addr) (rs : List Pr) (y : Str) (s : Step) (st : Kn × List Ev), vs = [.ref p, .str y, .str s.1, .str s.2] ∧ RunA K Cp CF H0 H p pg e d rs st ∧ (s.1 ∈ calling → s.2 ∈ rs.map Pr.name) ∧ unk (rs.map Pr.name) st.1 ≤ n ∧ cst (rs.map Pr.name) st + 1 ≤ 2000 ∧
  ∀ H', RunA K Cp CF H0 H' p pg e d rs (stepN (askN (bodyOf (pls rs)) n) y s st) → SameT H H' → Q .non H'
abbrev sFreshRunStep : Stmt := inClass (top 27) 2
theorem scFreshRunStep : FnScope ["self", "name", "kind", "word"] ["self", "name", "kind", "word"] (defScope sFreshRunStep) := ⟨rfl, rfl, rfl, by decide +kernel, rfl, by decide +kernel, by decide +kernel⟩
theorem ok_step_run {f aC : Addr} {fd : FuncData} {n k : Nat} (F : Fun K "step" "FreshRun.step" sFreshRunStep f fd) (T : FrC K mg CF) (mg_CALLING_KINDS : mg "CALLING_KINDS" = some (.ref aC)) (qC : ∀ H, SqT K H aC (calling.map V.str)) (c_ask : CalM P w K mg base CX0 k CF "ask" ["self", "name"] (spAsk K Cp CF n)) :
    FnOk P w K mg base CX0 (k + 1) f fd ["self", "name", "kind", "word"] (spRStep K Cp CF n) := by
  refine F.ok scFreshRunStep (fun vs H Q E h => ?_) (fun cdv A outer s H vs Q E hr h => ?_)
  · obtain ⟨H0, p, pg, e, d, rs, y, sp, st, rfl, _⟩ := h
    rfl
  · obtain ⟨H0, p, pg, e, d, rs, y, sp, st, rfl, X, hc, hu, hcs, kk⟩ := h
    have hu1 : (A.deeper (PyProof.Rows.envOfC "FreshRun.step" (defScope sFreshRunStep) s.heap.objs.size f cdv)).units + 1 < cLine := by have := hr.un; omega
    refine ⟨_, (pss_one (ps_if (pt_cmpR op_eq (pv 2) pe_str (nomark _))
        (pss_one (ps_expr (pe_bm PySem.F.plainAttrs_list PySem.F.slot_list_append PySem.F.type_list_append mt_append (fldK K (pv 0)) (pa_cons (pe_tup (pa_cons pe_str (pa_cons (pv 1) (pa_cons (pv 3) pa_nil)))) pa_nil)))) (pss_one (ps_if (pt_cmpR (oin K) (pv 2) (pe_glob (v := .ref _) rfl mg_CALLING_KINDS rfl) (by rfl))
          (pss_cons (ps_if (pt_cmp (pc_din hu1 (pv 3) (fldK K (pv 0))))
            (pss_one (ps_expr (pe_bm PySem.F.plainAttrs_list PySem.F.slot_list_append PySem.F.type_list_append mt_append (fldK K (pv 0)) (pa_cons (pe_tup (pa_cons (pe_dget hu1 (fldK K (pv 0)) (pv 3) (fun _ _ => rfl)) (pa_cons (pv 1) (pa_cons (pv 3) pa_nil)))) pa_nil)))) pss_nil)
          (pss_one (ps_expr (om_meth (pv 0) T.ins.cl c_ask hr pass0 (pa_cons (pv 3) pa_nil))))) pss_nil)))), ?_⟩
    obtain ⟨dx, ho⟩ := X.o
    obtain ⟨kvs, hd, kn⟩ := X.k
    obtain ⟨ts, he, pv⟩ := X.v
    have lts := Paired.length pv
    have big : (5000 : Nat) < sizeLine := by decide
    have R : RightP rs := (show RightP rs from let ⟨_, _, _, _, _, _, _, R, _⟩ := X.g; R)
    have hl : st.2.length < 3000 := by unfold cst at hcs; omega
    refine ⟨_, rfl, rfl, _, rfl, ?_⟩
    by_cases q1 : sp.1 = ("read" : Str)
    · refine ite2 (fun _ => ?_) fun q => absurd (decide_eq_true (congrArg V.str q1)) q
      refine ⟨_, rfl, p, CF, dx, _, _, rfl, ho, T.ins.cl, T.nE, flF_e pg e d, .inl ⟨rfl, _, .of he⟩, _, rfl, _, rfl, (by show 3 ≤ sizeLine; decide), fun t nt => ⟨e, _, _, rfl, rfl, (Same.new nt) _ _ he, by rw [List.length_map]; omega, ?_⟩⟩
      have e1 : stepN (askN (bodyOf (pls rs)) n) y sp st = (st.1, st.2 ++ [[("read" : Str), y, sp.2]]) := by unfold stepN; rw [if_pos q1]
      exact kk _ (by rw [e1]; exact X.add he nt rfl) ((SameT.of (Same.new nt)).putL ((Same.new nt) _ _ he))
    refine ite2 (fun q => absurd (V.str.inj (of_decide_eq_true q)) q1) fun _ => ?_
    refine ⟨_, rfl, aC, _, rfl, .inr (qC _), rfl, flat_strs calling, _, rfl, ?_⟩
    show if inV (.str sp.1) (calling.map V.str) = true then _ else _
    rw [inV_str]
    by_cases q2 : sp.1 ∈ calling
    · rw [decide_eq_true q2]
      refine iteT ?_
      have hv := kn.val sp.2
      cases c : st.1 sp.2 with
      | none =>
        rw [c] at hv
        refine ⟨_, rfl, _, rfl, p, CF, dx, _, _, rfl, ho, T.ins.cl, T.nK, flF_k pg e d, d, none, rfl, .inl ⟨kvs, Sum.inr sp.2, .inl hd, rfl, hv.symm⟩, _, rfl, iteF ?_⟩
        refine ⟨_, rfl, p, dx, _, rfl, ho, flF_no (by decide) (by decide) (by decide), _, rfl, H0, p, pg, e, d, rs, sp.2, st, rfl, X, hc q2, fun _ => hu, by omega, fun H' X' T' => ?_⟩
        have e1 : stepN (askN (bodyOf (pls rs)) n) y sp st = askN (bodyOf (pls rs)) n sp.2 st := by
          unfold stepN
          rw [if_neg q1, if_pos (show sp.1 ∈ (["call", "try"] : List Str) from q2), c]
        exact kk _ (by rw [e1]; exact X') T'
      | some v =>
        rw [c] at hv
        have hv : valV kvs (Sum.inr sp.2) = some (.str v) := hv
        refine ⟨_, rfl, _, rfl, p, CF, dx, _, _, rfl, ho, T.ins.cl, T.nK, flF_k pg e d, d, some (.str v), rfl, .inl ⟨kvs, Sum.inr sp.2, .inl hd, rfl, hv.symm⟩, _, rfl, iteT ?_⟩
        refine ⟨_, rfl, p, CF, dx, _, _, rfl, ho, T.ins.cl, T.nE, flF_e pg e d, .inl ⟨rfl, _, .of he⟩, _, rfl, p, CF, dx, _, _, rfl, ho, T.ins.cl, T.nK, flF_k pg e d, _, rfl, d, _, rfl, .inl ⟨kvs, Sum.inr sp.2, .inl hd, rfl, hv.symm⟩, _, rfl, _, rfl, (by show 3 ≤ sizeLine; decide), fun t nt => ⟨e, _, _, rfl, rfl, (Same.new nt) _ _ he, by rw [List.length_map]; omega, ?_⟩⟩
        have X1 := X.add he nt (ev := [v, y, sp.2]) (vs := [.str v, .str y, .str sp.2]) rfl
        obtain ⟨dx1, ho1⟩ := X1.o
        refine ⟨_, rfl, p, dx1, _, rfl, ho1, flF_no (by decide) (by decide) (by decide), _, rfl, H0, p, pg, e, d, rs, sp.2, (st.1, st.2 ++ [[v, y, sp.2]]), rfl, X1, hc q2, (fun z => by rw [c] at z; cases z), ?_, fun H' X' T' => ?_⟩
        · unfold cst at hcs ⊢
          show (st.2 ++ [_]).length + 14 * unk _ st.1 ≤ _
          rw [List.length_append, List.length_singleton]; omega
        · have e1 : stepN (askN (bodyOf (pls rs)) n) y sp st = askN (bodyOf (pls rs)) n sp.2 (st.1, st.2 ++ [[v, y, sp.2]]) := by
            unfold stepN
            rw [if_neg q1, if_pos (show sp.1 ∈ (["call", "try"] : List Str) from q2), c]
          exact kk _ (by rw [e1]; exact X') (((SameT.of (Same.new nt)).putL ((Same.new nt) _ _ he)).trans T')
    · rw [decide_eq_false q2]
      refine iteF (kk _ ?_ SameT.refl)
      have e1 : stepN (askN (bodyOf (pls rs)) n) y sp st = st := by unfold stepN; rw [if_neg q1]; exact if_neg q2
      rw [e1]; exact X
abbrev sFreshRunAsk : Stmt := inClass (top 27) 1
theorem scFreshRunAsk : FnScope ["self", "name", "kind", "word"] ["self", "name"] (defScope sFreshRunAsk) := ⟨rfl, rfl, rfl, by decide +kernel, rfl, by decide +kernel, by decide +kernel⟩
theorem ok_ask_run {f : Addr} {fd : FuncData} {n k : Nat} {sps : Sp} (k1 : 2 ≤ k) (F : Fun K "ask" "FreshRun.ask" sFreshRunAsk f fd) (T : FrC K mg CF) (O : PgOps P w K mg base Cp) (TP : PgC K mg Cp) (c_step : CalM P w K mg base CX0 k CF "step" ["self", "name", "kind", "word"] sps) (es : ∀ m, n = m + 1 → sps = spRStep K Cp CF m) :
    FnOk P w K mg base CX0 (k + 1) f fd ["self", "name"] (spAsk K Cp CF n) := by
  refine F.ok scFreshRunAsk (fun vs H Q E h => ?_) (fun cdv A outer s H vs Q E hr h => ?_)
  · obtain ⟨H0, p, pg, e, d, rs, y, st, rfl, _⟩ := h
    rfl
  · obtain ⟨H0, p, pg, e, d, rs, y, st, rfl, X, hy, hu, hcs, kk⟩ := h
    have hu1 : (A.deeper (PyProof.Rows.envOfC "FreshRun.ask" (defScope sFreshRunAsk) s.heap.objs.size f cdv)).units + 1 < cLine := by have := hr.un; omega
    have hr1 : Room 2 _ := hr.mono k1
    refine ⟨_, (pss_cons (ps_if (pt_cmp (pc_din hu1 (pv 1) (fldK K (pv 0))))
        (pss_one ps_retN) pss_nil)
      (pss_cons (ps_asg pe_str (pg_sub (fldK K (pv 0)) (pv 1) (set_dict hu1)))
      (pss_cons (ps_expr (pe_bm PySem.F.plainAttrs_list PySem.F.slot_list_append PySem.F.type_list_append mt_append (fldK K (pv 0)) (pa_cons (pe_tup (pa_cons pe_str (pa_cons (pv 1) pa_nil))) pa_nil)))
      (pss_cons (ps_for PassesOwn.never rfl (pi_tup (om_get O.get hr1 pass0 (fldK K (pv 0)) (pv 1))) (pg_tup rfl (pgs_cons (pg_name (i := 2) scFreshRunAsk.nd rfl (by first | exact Or.inl rfl | exact Or.inr rfl)) (pgs_cons (pg_name (i := 3) scFreshRunAsk.nd rfl (by first | exact Or.inl rfl | exact Or.inr rfl)) pgs_nil)))
        (pss_one (ps_expr (om_meth (pv 0) T.ins.cl c_step hr pass0 (pa_cons (pv 1) (pa_cons (pv 2) (pa_cons (pv 3) pa_nil)))))))
      (pss_cons (ps_asg pe_str (pg_sub (fldK K (pv 0)) (pv 1) (set_dict hu1)))
      (pss_one (ps_expr (pe_bm PySem.F.plainAttrs_list PySem.F.slot_list_append PySem.F.type_list_append mt_append (fldK K (pv 0)) (pa_cons (pe_tup (pa_cons pe_str (pa_cons (pv 1) pa_nil))) pa_nil))))))))), ?_⟩
    obtain ⟨dx, ho⟩ := X.o
    obtain ⟨kvs, hd, kn⟩ := X.k
    obtain ⟨ts, he, pv⟩ := X.v
    have lts := Paired.length pv
    have big : (5000 : Nat) < sizeLine := by decide
    have R : RightP rs := (show RightP rs from let ⟨_, _, _, _, _, _, _, R, _⟩ := X.g; R)
    have hv := kn.val y
    have few := kn.few R
    cases c : st.1 y with
    | some v =>
      rw [c] at hv
      refine ⟨_, rfl, _, rfl, p, CF, dx, _, _, rfl, ho, T.ins.cl, T.nK, flF_k pg e d, d, some (.str v), rfl, .inl ⟨kvs, Sum.inr y, .inl hd, rfl, hv.symm⟩, _, rfl, iteT ?_⟩
      exact kk _ (by rw [askN_known c]; exact X) SameT.refl
    | none =>
      rw [c] at hv
      refine ⟨_, rfl, _, rfl, p, CF, dx, _, _, rfl, ho, T.ins.cl, T.nK, flF_k pg e d, d, none, rfl, .inl ⟨kvs, Sum.inr y, .inl hd, rfl, hv.symm⟩, _, rfl, iteF ?_⟩
      have up := unk_pos hy c
      have un := hu c
      obtain ⟨m, rfl⟩ : ∃ m, n = m + 1 := ⟨n - 1, by omega⟩
      obtain rfl := es m rfl
      obtain ⟨r, rm, rfl⟩ := List.mem_map.mp hy
      have bo : bodyOf (pls rs) r.name = r.ss := bodyOf_mem (x := pls rs) (ss := r.ss) (by rw [pls_names]; exact R.nd) (List.mem_map.mpr ⟨r, rm, rfl⟩)
      have B := R.bodyOk
      refine ⟨_, rfl, p, CF, dx, _, _, rfl, ho, T.ins.cl, T.nK, flF_k pg e d, _, rfl, d, _, rfl, .inl ⟨kvs, Sum.inr r.name, hd, rfl, by omega, rfl⟩, ?_⟩
      have X1 := X.set hd (v := "cycle") hy
      have T1 : SameT H (upd H d (.dK (putK kvs (Sum.inr r.name) (.str "cycle")))) := SameT.putD .refl hd
      generalize upd H d (.dK (putK kvs (Sum.inr r.name) (.str "cycle"))) = H1 at X1 T1 ⊢
      obtain ⟨dx1, ho1⟩ := X1.o
      obtain ⟨ts1, he1, pv1⟩ := X1.v
      have lts1 : ts1.length = st.2.length := Paired.length pv1
      have hcs' : st.2.length < 3000 := by unfold cst at hcs; omega
      refine ⟨_, rfl, p, CF, dx1, _, _, rfl, ho1, T.ins.cl, T.nE, flF_e pg e d, .inl ⟨rfl, _, .of he1⟩, _, rfl, (by show 2 ≤ sizeLine; decide), fun t nt => ⟨e, _, _, rfl, rfl, (Same.new nt) _ _ he1, by rw [List.length_map]; omega, ?_⟩⟩
      have X2 := X1.add he1 nt (ev := ["start", r.name]) (vs := [.str "start", .str r.name]) rfl
      have T2 := (T1.trans (SameT.of (Same.new (o := .tup [.str "start", .str r.name]) nt))).putL (o := .lst (ts1.map V.ref ++ [.ref t])) ((Same.new nt) _ _ he1)
      generalize upd (upd H1 t (.tup [.str "start", .str r.name])) e (.lst (ts1.map V.ref ++ [.ref t])) = H2 at X2 T2 ⊢
      have uset := unk_set (ns := rs.map Pr.name) (kn := st.1) (v := "cycle") hy c
      have c2 : cst (rs.map Pr.name) (setK st.1 r.name "cycle", st.2 ++ [[("start" : Str), r.name]]) + 13 ≤ 2000 := by
        unfold cst at hcs ⊢
        simp only [List.length_append, List.length_singleton]
        omega
      have em : askN (bodyOf (pls rs)) (m + 1) r.name st = (setK (stepsN (askN (bodyOf (pls rs)) m) r.name r.ss (setK st.1 r.name "cycle", st.2 ++ [[("start" : Str), r.name]])).1 r.name "reuse", (stepsN (askN (bodyOf (pls rs)) m) r.name r.ss (setK st.1 r.name "cycle", st.2 ++ [[("start" : Str), r.name]])).2 ++ [[("end" : Str), r.name]]) := by
        show (match st.1 r.name with | some _ => st | none => _) = _
        rw [c, bo]
      obtain ⟨dx2, ho2⟩ := X2.o
      have PB := X2.prg
      obtain ⟨dxg, _, _, _, _, _, xg, _⟩ := id PB
      have u2 : unk (rs.map Pr.name) (setK st.1 r.name "cycle") ≤ m := by omega
      refine ⟨_, rfl, p, CF, dx2, _, _, rfl, ho2, T.ins.cl, T.nP, flF_p pg e d, _, rfl, pg, dxg, _, rfl, xg.o, pg, rs, r, rfl, PB, rm, fun u sq stA => ⟨u, rfl, ⟨_, sq⟩, ?_⟩⟩
      have lss : (r.ts.map V.ref).length = r.ss.length := by rw [List.length_map]; exact Paired.length stA
      refine for_it walk_tup (fun j σ H' => ∃ v2 v3 : Option V, σ = [some (.ref p), some (.str r.name), v2, v3] ∧ RunA K Cp CF H0 H' p pg e d rs (stepsN (askN (bodyOf (pls rs)) m) r.name (r.ss.take j) (setK st.1 r.name "cycle", st.2 ++ [[("start" : Str), r.name]])) ∧ SameT H2 H') ⟨none, none, rfl, X2, SameT.refl⟩ (fun j σ H' _ q => q.choose_spec.choose_spec.2.2.tup sq) ?_ ?_
      · rintro j x σ _ H3 hj ⟨v2, v3, rfl, X3, T3⟩ ⟨rfl, hx⟩
        rw [List.getElem?_map] at hx
        obtain ⟨tt, htt, rfl⟩ := Option.map_eq_some_iff.mp hx
        obtain ⟨sp, hsp, hts⟩ := stA.get htt
        have sm := List.mem_of_getElem? hsp
        rw [lss] at hj
        obtain ⟨dx3, ho3⟩ := X3.o
        have c3 := steps_cost (ns := rs.map Pr.name) (ask := askN (bodyOf (pls rs)) m) (fun y st h => ask_cost B h) (y := r.name) (ss := r.ss.take j) (st := (setK st.1 r.name "cycle", st.2 ++ [[("start" : Str), r.name]])) fun s hs => R.ca r rm s (List.mem_of_mem_take hs)
        have l12 := bodyB_len (R.ri r rm).2.1
        rw [List.length_take] at c3
        have u3 : unk (rs.map Pr.name) (stepsN (askN (bodyOf (pls rs)) m) r.name (r.ss.take j) (setK st.1 r.name "cycle", st.2 ++ [[("start" : Str), r.name]])).1 ≤ m := Nat.le_trans (unk_le fun z h => stepsN_mono (fun _ _ _ q => askN_mono q) h) u2
        refine ⟨tt, _, rfl, .of (T3 _ _ noLD_tup hts), rfl, _, _, rfl, _, _, rfl, rfl, ?_⟩
        refine ⟨_, rfl, p, dx3, _, rfl, ho3, flF_no (by decide) (by decide) (by decide), _, rfl, _, rfl, _, rfl, H0, p, pg, e, d, rs, r.name, sp, _, rfl, X3, R.ca r rm sp sm, u3, by omega, fun H' X' T' => ⟨_, _, rfl, ?_, T3.trans T'⟩⟩
        have tk : r.ss.take (j + 1) = r.ss.take j ++ [sp] := by rw [List.take_add_one, hsp]; rfl
        rw [tk, stepsN_snoc]
        exact X'
      rintro σ H3 ⟨v2, v3, rfl, X3, T3⟩
      rw [lss, List.take_length] at X3
      have c3 := steps_cost (ns := rs.map Pr.name) (ask := askN (bodyOf (pls rs)) m) (fun y st h => ask_cost B h) (y := r.name) (ss := r.ss) (st := (setK st.1 r.name "cycle", st.2 ++ [[("start" : Str), r.name]])) fun s hs => R.ca r rm s hs
      have l12 := bodyB_len (R.ri r rm).2.1
      generalize stepsN (askN (bodyOf (pls rs)) m) r.name r.ss (setK st.1 r.name "cycle", st.2 ++ [[("start" : Str), r.name]]) = st3 at X3 em c3
      obtain ⟨dx3, ho3⟩ := X3.o
      obtain ⟨kvs3, hd3, kn3⟩ := X3.k
      have few3 := kn3.few R
      refine ⟨_, rfl, p, CF, dx3, _, _, rfl, ho3, T.ins.cl, T.nK, flF_k pg e d, _, rfl, d, _, rfl, .inl ⟨kvs3, Sum.inr r.name, hd3, rfl, by omega, rfl⟩, ?_⟩
      have X4 := X3.set hd3 (v := "reuse") hy
      have T4 : SameT H3 (upd H3 d (.dK (putK kvs3 (Sum.inr r.name) (.str "reuse")))) := SameT.putD .refl hd3
      generalize upd H3 d (.dK (putK kvs3 (Sum.inr r.name) (.str "reuse"))) = H4 at X4 T4 ⊢
      obtain ⟨dx4, ho4⟩ := X4.o
      obtain ⟨ts4, he4, pv4⟩ := X4.v
      have lts4 : ts4.length = st3.2.length := Paired.length pv4
      have l3 : st3.2.length < 3000 := by unfold cst at c3 c2; omega
      refine ⟨_, rfl, p, CF, dx4, _, _, rfl, ho4, T.ins.cl, T.nE, flF_e pg e d, .inl ⟨rfl, _, .of he4⟩, _, rfl, (by show 2 ≤ sizeLine; decide), fun t nt => ⟨e, _, _, rfl, rfl, (Same.new nt) _ _ he4, by rw [List.length_map]; omega, ?_⟩⟩
      have X5 := X4.add he4 nt (ev := ["end", r.name]) (vs := [.str "end", .str r.name]) rfl
      have T5 := (T4.trans (SameT.of (Same.new (o := .tup [.str "end", .str r.name]) nt))).putL (o := .lst (ts4.map V.ref ++ [.ref t])) ((Same.new nt) _ _ he4)
      exact kk _ (by rw [em]; exact X5) ((T2.trans T3).trans T5)
theorem ask_all {fa fs aC : Addr} {fda fds : FuncData} (Fa : Fun K "ask" "FreshRun.ask" sFreshRunAsk fa fda) (Fs : Fun K "step" "FreshRun.step" sFreshRunStep fs fds) (Ma : Meth K CF "ask" fa) (Ms : Meth K CF "step" fs) (ia : PySem.W.fnIn K fa = true) (is : PySem.W.fnIn K fs = true) (Ba : Binds K fda ["self", "name"] []) (Bs : Binds K fds ["self", "name", "kind", "word"] [])
    (T : FrC K mg CF) (O : PgOps P w K mg base Cp) (TP : PgC K mg Cp) (mg_CALLING_KINDS : mg "CALLING_KINDS" = some (.ref aC)) (qC : ∀ H, SqT K H aC (calling.map V.str)) : ∀ n : Nat, CalM P w K mg base CX0 (2 * n + 3) CF "ask" ["self", "name"] (spAsk K Cp CF n)
  | 0 => ⟨fa, fda, Ma, ia, ok_ask_run (k := 2) (sps := fun _ _ _ _ => False) (by decide) Fa T O TP ⟨fs, fds, Ms, is, ⟨fun _ _ _ _ h => h.elim, fun _ _ _ _ _ _ _ _ _ _ _ _ _ h => h.elim⟩, Bs⟩ (fun m e => by omega), Ba⟩
  | n + 1 => by
    have ih := ask_all Fa Fs Ma Ms ia is Ba Bs T O TP mg_CALLING_KINDS qC n
    have st : CalM P w K mg base CX0 (2 * n + 4) CF "step" ["self", "name", "kind", "word"] (spRStep K Cp CF n) := ⟨fs, fds, Ms, is, ok_step_run Fs T mg_CALLING_KINDS qC ih, Bs⟩
    exact ⟨fa, fda, Ma, ia, ok_ask_run (n := n + 1) (k := 2 * n + 4) (by omega) Fa T O TP st (fun m e => by rw [show n = m by omega]), Ba⟩
/-! ### FreshRun -/
def spFrInit (K : PySem.W.Frag) (Cp C CF : Addr) : Sp := fun vs H Q _ => ∃ (H0 : Hp) (p dx pg q : Addr) (rs : List Pr) (ms : List Str), vs = [.ref p, .ref pg, .ref q] ∧ H p = some (.ins CF dx []) ∧ H0 p = none ∧ Same H0 H ∧ Prg K Cp H0 pg rs ∧ NSet C H q ms ∧ (∀ z ∈ ms, z ∈ rs.map Pr.name) ∧
  ∀ e d H', RunA K Cp CF H0 H' p pg e d rs ((fun z => if z ∈ ms then some ("reuse" : Str) else none), []) → Q .non H'
abbrev sFreshRunInit : Stmt := inClass (top 27) 0
theorem scFreshRunInit : FnScope ["self", "program", "cached", "name"] ["self", "program", "cached"] (defScope sFreshRunInit) := ⟨rfl, rfl, rfl, by decide +kernel, rfl, by decide +kernel, by decide +kernel⟩
theorem ok_frInit {f : Addr} {fd : FuncData} (F : Fun K "__init__" "FreshRun.__init__" sFreshRunInit f fd) (T : FrC K mg CF) (TN : NsC K mg C) : FnOk P w K mg base CX0 1 f fd ["self", "program", "cached"] (spFrInit K Cp C CF) := by
  refine F.ok scFreshRunInit (fun vs H Q E h => ?_) (fun cdv A outer s H vs Q E hr h => ?_)
  · obtain ⟨H0, p, dx, pg, q, rs, ms, rfl, _⟩ := h
    rfl
  · obtain ⟨H0, p, dx, pg, q, rs, ms, rfl, hp, h0, s0, hP, hN, inn, k⟩ := h
    refine ⟨_, (pss_cons (ps_fld (pv 0) (pv 1) rfl)
      (pss_cons (ps_fld (pv 0) (pe_lst pa_nil) rfl)
      (pss_one (ps_fld (pv 0) (pe_dc (own := [("name", 3)]) (g := (gName 3)) (tt := tYes) rfl scFreshRunInit.nd (pi_tup (fldK K (pv 2))) (blkOk_by (own := [("name", 3)]) (N := ["self", "program", "cached", "name"]) (sc := defScope sFreshRunInit) (by decide +kernel)) (fun _ _ _ _ _ => (pg_name (i := 3) scFreshRunInit.nd rfl (by first | exact Or.inl rfl | exact Or.inr rfl))) (fun _ _ _ _ _ => pts_nil) (fun _ _ _ _ _ => (pv 3)) (fun _ _ _ _ _ => pe_str)) rfl)))), ?_⟩
    obtain ⟨dxq, t, hq, ht, up, l4, so⟩ := id hN
    have qp : q ≠ p := fun e => by rw [e, hp] at hq; cases hq
    have tp : t ≠ p := fun e => by rw [e, hp] at ht; cases ht
    refine ⟨_, rfl, _, rfl, p, CF, dx, [], rfl, hp, T.ins.cl, T.nP, by decide, ?_⟩
    refine ⟨(by show 0 ≤ sizeLine; decide), fun e ne => ?_⟩
    have pe : p ≠ e := Ne.symm (ne_none ne upd_same)
    have e0 : H e = none := by rw [upd_ne (Ne.symm pe)] at ne; exact ne
    refine ⟨_, rfl, p, CF, dx, _, rfl, by rw [upd_ne pe]; exact upd_same, T.ins.cl, T.nE, (by show (1 : Nat) < 1000; decide), ?_⟩
    have hp2 : (upd (upd H p (.ins CF dx (putF "program" (.ref pg) []))) e (.lst [])) p = some (.ins CF dx (putF "program" (.ref pg) [])) := by rw [upd_ne pe]; exact upd_same
    have he3 : (upd (upd (upd H p (.ins CF dx (putF "program" (.ref pg) []))) e (.lst [])) p (.ins CF dx (putF "events" (.ref e) (putF "program" (.ref pg) [])))) e = some (.lst []) := by rw [upd_ne (Ne.symm pe)]; exact upd_same
    have hp3 : (upd (upd (upd H p (.ins CF dx (putF "program" (.ref pg) []))) e (.lst [])) p (.ins CF dx (putF "events" (.ref e) (putF "program" (.ref pg) [])))) p = some (.ins CF dx (putF "events" (.ref e) (putF "program" (.ref pg) []))) := upd_same
    have he0 := s0.free e0
    have s3 : Same H0 (upd (upd (upd H p (.ins CF dx (putF "program" (.ref pg) []))) e (.lst [])) p (.ins CF dx (putF "events" (.ref e) (putF "program" (.ref pg) [])))) := ((s0.mut h0).mut he0).mut h0
    have hN3 : (upd (upd (upd H p (.ins CF dx (putF "program" (.ref pg) []))) e (.lst [])) p (.ins CF dx (putF "events" (.ref e) (putF "program" (.ref pg) [])))) q = some (.ins C dxq (flM t)) := by
      rw [upd_ne qp, upd_ne (fun z => by rw [z, e0] at hq; cases hq), upd_ne qp]; exact hq
    have ht3 : (upd (upd (upd H p (.ins CF dx (putF "program" (.ref pg) []))) e (.lst [])) p (.ins CF dx (putF "events" (.ref e) (putF "program" (.ref pg) [])))) t = some (.tup (ms.map V.str)) := by
      rw [upd_ne tp, upd_ne (fun z => by rw [z, e0] at ht; cases ht), upd_ne tp]; exact ht
    generalize upd (upd (upd H p (.ins CF dx (putF "program" (.ref pg) []))) e (.lst [])) p (.ins CF dx (putF "events" (.ref e) (putF "program" (.ref pg) []))) = H3 at he3 hp3 s3 hN3 ht3 ⊢
    refine ⟨_, rfl, q, C, dxq, _, _, rfl, hN3, TN.ins.cl, TN.nM, flM_get t, t, rfl, ⟨_, .of ht3⟩, fun D nD => ?_⟩
    have big : (5000 : Nat) < sizeLine := by decide
    refine dc_tup (fun i H' => Same H3 H' ∧ ∃ kvs, H' D = some (.dK kvs) ∧ kvs.length ≤ i ∧ KnA kvs (rs.map Pr.name) (fun z => if z ∈ ms.take i then some ("reuse" : Str) else none)) ⟨Same.new nD, [], upd_same, Nat.le_refl _, ⟨fun z => by simp [valV], [], rfl, List.nodup_nil, by simp⟩⟩ (fun i H' _ z => .of (z.1 _ _ ht3)) ?_ ?_
    · rintro i x H4 hx ⟨s4, kvs, h4, l, kn⟩
      rw [List.getElem?_map] at hx
      obtain ⟨z, hz, rfl⟩ := Option.map_eq_some_iff.mp hx
      have il := (List.getElem?_eq_some_iff.mp hz).1
      refine ⟨rfl, yes_then ⟨_, rfl, kvs, Sum.inr z, rfl, h4, by omega, s4.mut nD, _, upd_same, Nat.le_trans (length_putK _ _ _) (by omega), ?_⟩⟩
      have zi := inn z (List.mem_of_getElem? hz)
      have e : (fun y => if y ∈ ms.take (i + 1) then some ("reuse" : Str) else none) = setK (fun y => if y ∈ ms.take i then some ("reuse" : Str) else none) z "reuse" := funext fun y => by
        unfold setK
        rw [List.take_add_one, hz]
        by_cases c : y = z
        · subst c; simp
        · simp [c]
      rw [e]
      exact kn.set zi
    · rintro H4 ⟨s4, kvs, h4, l, kn⟩
      rw [List.length_map, List.take_length] at kn
      have hp4 := s4 _ _ hp3
      have pD : p ≠ D := fun z => by rw [z, h4] at hp4; cases hp4
      have he4 := s4 _ _ he3
      have eD : e ≠ D := fun z => by rw [z, h4] at he4; cases he4
      refine ⟨_, rfl, p, CF, dx, _, rfl, hp4, T.ins.cl, T.nK, Nat.lt_of_le_of_lt (length_putF _ _ _) (by show (1 : Nat) + 1 < 1000; decide), ?_⟩
      refine k e D _ ⟨⟨dx, upd_same⟩, hP, he0, s3.free nD, (s3.trans s4).mut h0, ⟨kvs, by rw [upd_ne (Ne.symm pD)]; exact h4, kn⟩, ⟨[], by rw [upd_ne (Ne.symm pe)]; exact he4, .nil⟩⟩
end
end Mf


namespace Mf
open PySem L2

/-- the rule for making an error, also with keywords: the check of its maker -/
theorem eck {M : Model} {A : Around} {E : Value → Shared → Prop} {h : Heap} {g : Array GenState}
    {d : Drawn} {t : Nat} {os : OsState} {nm q : Str} {C N : Addr} {bs bm bmB : List Value} {hdct : Bool} {sn : List Str}
    {sub : List Value} {ab : Bool} {col : Option Bool} {dd : Option Addr} {k0 k1 k2 k3 k5 : Option Value}
    {B newId initId : String} (F : ExcBaseFacts B newId initId bmB)
    (hb : ∀ X : String, bm.contains (Value.type X) = bmB.contains (Value.type X))
    {rest : List Value} {kw : List (Str × Value)} {Q : Unit → Shared → Prop}
    (hC : h.get? C = some (excClassObj nm q C N bs bm hdct sn sub ab col dd k0 k1 k2 k3 k5 newId))
    (hQ : Q () ⟨h, g, d, t, os⟩) :
    wpAny M A (checkBuiltinCall newId ⟨.ref C :: rest, kw⟩) Q E ⟨h, g, d, t, os⟩ := by
  have hB : List.contains (Value.ref C :: bm) (Value.type B) = true := by
    rw [List.contains_cons, hb, F.hasB, Bool.or_true]
  unfold checkBuiltinCall
  simp only [F.newKind, F.newSplit, F.newRow]
  rw [if_pos (by decide)]
  refine wpAny_bind (wpAny_bind (wpAny_loadPart_at hC ?_))
  refine wpAny_pure ?_
  refine wpAny_ite_false (by rfl) ?_
  refine wpAny_bind (wpAny_isSubtype_exc hC ?_)
  rw [hB]
  refine wpAny_ite_false (by rfl) ?_
  refine wpAny_bind (wpAny_staticBase_exc hC ?_)
  refine wpAny_bind (wpAny_madeBy_exc hC ?_)
  simp only [bne_self_eq_false, Bool.false_eq_true, if_false]
  have nst : (B == "*") = false := by have := F.noStar; simpa using this
  unfold Bind.checkArgs
  simp only [Bind.printed, F.noStar, nst, Bool.false_and, if_false, if_true, Bool.false_eq_true, pure_bind, Bind.check]
  exact wpAny_onRaise (wpAny_pure hQ)

theorem enew {prog : Program} {w : World} {A : Around} {R : Result → Shared → Prop} {h : Heap} {g : Array GenState}
    {d : Drawn} {t : Nat} {os : OsState} {nm q : Str} {C N : Addr} {bs bm bmB : List Value} {hdct : Bool} {sn : List Str}
    {sub : List Value} {ab : Bool} {col : Option Bool} {dd : Option Addr} {k0 k1 k2 k3 k5 : Option Value}
    {B newId initId : String} (F : ExcBaseFacts B newId initId bmB)
    (hb : ∀ X : String, bm.contains (Value.type X) = bmB.contains (Value.type X))
    {rest : List Value} {kw : List (Str × Value)}
    (hC : h.get? C = some (excClassObj nm q C N bs bm hdct sn sub ab col dd k0 k1 k2 k3 k5 newId))
    (hR : R (.ok (.ret (.ref (h.objs.size + 1))))
      ⟨(h.push (W.kdv_tup rest)).push (HandSPX.excO C h.objs.size), g, d, t, os⟩)
    (hl : rest.length ≤ sizeLine) :
    codeAny (model prog w) A (.builtin newId ⟨.ref C :: rest, kw⟩) R ⟨h, g, d, t, os⟩ := by
  have hB : List.contains (Value.ref C :: bm) (Value.type B) = true := by
    rw [List.contains_cons, hb, F.hasB, Bool.or_true]
  have hA : List.contains (Value.ref C :: bm) (Value.type "AttributeError") = false := by
    rw [List.contains_cons, hb, F.noAttr]; rfl
  have hN : List.contains (Value.ref C :: bm) (Value.type "NameError") = false := by
    rw [List.contains_cons, hb, F.noName]; rfl
  refine codeAny_builtinAt F.entry ?_
  unfold Builtin.«BaseException.__new__»
  refine wpAt_bind ?_
  refine wpAt_bind (wpAt_stack fun p below => ?_)
  refine wpAt_of_wpAny ?_
  refine wpAny_ite_true (by rw [F.ends]; rfl) ?_
  refine wpAny_pure ?_
  rw [F.owner]
  refine wpAt_of_wpAny ?_
  refine wpAny_bind (wpAny_bind (wpAny_loadPart_at hC (wpAny_pure ?_)))
  refine wpAny_ite_false (by rfl) ?_
  refine wpAny_bind (wpAny_isSubtype_exc hC ?_)
  rw [hB]
  refine wpAny_ite_false (by rfl) ?_
  refine wpAny_bind (wpAny_madeHere_exc F.canon hC ?_)
  refine wpAny_bind (wpAny_bind (wpAny_isSubtype_exc hC ?_))
  rw [hA]
  refine wpAny_ite_false (by rfl) ?_
  refine wpAny_bind (wpAny_isSubtype_exc hC ?_)
  rw [hN]
  refine wpAny_ite_false (by rfl) ?_
  refine wpAny_pure ?_
  unfold newTuple newObj
  refine wpAny_bind (wpAny_ite_false (by
    rw [List.size_toArray]; exact decide_eq_false (Nat.not_lt.mpr hl)) ?_)
  unfold newObjAsIs
  refine wpAny_bind (wpAny_alloc' ?_)
  refine wpAny_pure ?_
  refine wpAny_bind (wpAny_ite_false (by
    show decide (6 > sizeLine + 2) = false
    rw [sizeLine_eq]; rfl) ?_)
  refine wpAny_bind (wpAny_alloc' ?_)
  refine wpAny_bind (wpAny_bind (wpAny_load' (Heap.get?_push_of_some _ (Heap.get?_push_of_some _ hC)) (wpAny_pure ?_)))
  refine wpAny_ite_false (by rfl) ?_
  refine wpAny_pure ?_
  refine wpAny_pure ?_
  rw [Heap.size_push]
  exact hR

theorem etype {prog : Program} {w : World} {A A' : Around} {R : Result → Shared → Prop} {h : Heap} {g : Array GenState}
    {d : Drawn} {t : Nat} {os : OsState} {nm q : Str} {C N : Addr} {bs bm bmB : List Value} {hdct : Bool} {sn : List Str}
    {sub : List Value} {ab : Bool} {col : Option Bool} {dd : Option Addr} {k0 k1 k2 k3 k5 : Option Value}
    {B newId initId : String} (F : ExcBaseFacts B newId initId bmB)
    (hb : ∀ X : String, bm.contains (Value.type X) = bmB.contains (Value.type X))
    {rest : List Value} {kw : List (Str × Value)} {fI : Addr}
    (hC : h.get? C = some (excClassObj nm q C N bs bm hdct sn sub ab col dd k0 k1 k2 k3 k5 newId))
    (hi : W.Looks (model prog w) h (typeLookup (.ref C) (Str.ofString "__init__")) (some (.ref fI)))
    (hs : ∀ self : Value, W.Looks (model prog w) h (bindSpecial (.ref fI) self) (.ref fI, [self]))
    (hl : rest.length ≤ sizeLine)
    (hR : codeAny (model prog w) A
      (.call (.ref fI) ⟨.ref (h.objs.size + 1) :: rest, kw⟩) (W.InitBack (h.objs.size + 1) R)
      ⟨(h.push (W.kdv_tup rest)).push (HandSPX.excO C h.objs.size), g, d, t, os⟩) :
    wpAny (model prog w) A (Builtin.«type.__call__» ⟨.ref C :: rest, kw⟩)
      (fun fin s' => match fin with
        | Fin.done f => R (.ok f) s'
        | Fin.again c' => c'.quiet = true ∧ codeAny (model prog w) A' c' R s')
      (fun e s' => R (.error e) s') ⟨h, g, d, t, os⟩ := by
  unfold Builtin.«type.__call__»
  refine wpAny_ite_false (by rfl) ?_
  dsimp only
  refine wpAny_bind ?_
  unfold mroOf classData
  refine wpAny_bind (wpAny_bind (wpAny_load' hC (wpAny_pure (wpAny_pure ?_))))
  refine wpAny_ite_false (by rfl) ?_
  refine wpAny_bind (wpAny_madeBy_exc hC ?_)
  dsimp only
  refine wpAny_bind (wpAny_pure ?_)
  refine wpAny_bind (wpAny_holding (wpAny_call ?_))
  refine codeAny_call_builtin_code (Code.quiet_builtin _ F.quiet) (eck F hb hC ?_)
  refine enew F hb hC ?_ hl
  have keep : ∀ (b : Addr) (o : Obj), h.get? b = some o →
      ((h.push (W.kdv_tup rest)).push (HandSPX.excO C h.objs.size)).get? b = some o :=
    fun b o hbo => Heap.get?_push_of_some _ (Heap.get?_push_of_some _ hbo)
  have atE : ((h.push (W.kdv_tup rest)).push (HandSPX.excO C h.objs.size)).get? (h.objs.size + 1)
      = some (HandSPX.excO C h.objs.size) :=
    Heap.get?_push_at (by rw [Heap.size_push]) rfl
  have hC2 := keep _ _ hC
  dsimp only
  unfold isInstance
  refine wpAny_bind (wpAny_bind ?_)
  unfold typeOf
  refine wpAny_bind (wpAny_loadPart_at atE (wpAny_pure ?_))
  refine wpAny_isSubtype_exc hC2 ?_
  have cC : List.contains (Value.ref C :: bm) (Value.ref C) = true := by
    rw [List.contains_cons, beq_self_eq_true, Bool.true_or]
  rw [cC]
  refine wpAny_ite_false (by rfl) ?_
  unfold callSpecial? specialOf typeOf
  refine wpAny_bind (wpAny_holding (wpAny_bind (wpAny_bind (wpAny_bind (wpAny_loadPart_at atE (wpAny_pure ?_))))))
  refine hi _ _ _ _ keep ?_
  refine wpAny_holding (wpAny_bind (hs _ _ _ _ _ keep ?_))
  refine wpAny_bind (wpAny_call (codeAny_mono hR ?_))
  intro r s' hr
  unfold W.InitBack at hr
  match r, hr with
  | .ok (.ret v), hr =>
    obtain ⟨rfl, hr⟩ := hr
    refine wpAny_pure ?_
    refine wpAny_ite_false (by rfl) ?_
    exact wpAny_pure hr
  | .error e, hr => exact hr

theorem qTC : ("type.__call__" : String).startsWith "lifetime." = false := by decide +kernel

theorem ecall {prog : Program} {w : World} {A : Around} {R : Result → Shared → Prop} {h : Heap} {g : Array GenState}
    {d : Drawn} {t : Nat} {os : OsState} {nm q : Str} {C N : Addr} {bs bm bmB : List Value} {hdct : Bool} {sn : List Str}
    {sub : List Value} {ab : Bool} {col : Option Bool} {dd : Option Addr} {k0 k1 k2 k3 k5 : Option Value}
    {B newId initId : String} (F : ExcBaseFacts B newId initId bmB)
    (hb : ∀ X : String, bm.contains (Value.type X) = bmB.contains (Value.type X))
    {rest : List Value} {kw : List (Str × Value)} {fI : Addr}
    (hC : h.get? C = some (excClassObj nm q C N bs bm hdct sn sub ab col dd k0 k1 k2 k3 k5 newId))
    (hi : W.Looks (model prog w) h (typeLookup (.ref C) (Str.ofString "__init__")) (some (.ref fI)))
    (hs : ∀ self : Value, W.Looks (model prog w) h (bindSpecial (.ref fI) self) (.ref fI, [self]))
    (hl : rest.length ≤ sizeLine)
    (hR : codeAny (model prog w) (A.under (.builtin "type.__call__" ⟨.ref C :: rest, kw⟩))
      (.call (.ref fI) ⟨.ref (h.objs.size + 1) :: rest, kw⟩) (W.InitBack (h.objs.size + 1) R)
      ⟨(h.push (W.kdv_tup rest)).push (HandSPX.excO C h.objs.size), g, d, t, os⟩) :
    codeAny (model prog w) A (.call (.ref C) ⟨rest, kw⟩) R ⟨h, g, d, t, os⟩ := by
  have hB : List.contains (Value.ref C :: bm) (Value.type B) = true := by
    rw [List.contains_cons, hb, F.hasB, Bool.or_true]
  refine codeAny_of_tree ?_
  show wpAny (model prog w) _ (callAny (.ref C) ⟨rest, kw⟩) _ _ _
  unfold callAny
  refine wpAny_bind (wpAny_load' hC ?_)
  show wpAny (model prog w) _ (callAny.viaDunder (.ref C) ⟨rest, kw⟩) _ _ _
  unfold callAny.viaDunder
  refine wpAny_bind (wpAny_specialOf (T := "type") ⟨_, hC, rfl⟩ tc_lookup ?_)
  refine wpAny_bind (wpAny_of_eq (tc_bind _) ?_)
  have pc : callAny.plainCallee (.builtin "type.__call__") = pure true := by
    unfold callAny.plainCallee
    rfl
  refine wpAny_bind (wpAny_of_eq pc ?_)
  refine wpAny_ite_true rfl ?_
  refine wpAny_pure ?_
  refine ⟨rfl, ?_⟩
  refine codeAny_call_builtin_at (Code.quiet_builtin _ qTC) entry_typeCall ?_
  have ck : ∀ (A' : Around) (E : Value → Shared → Prop) (Q : Unit → Shared → Prop), Q () ⟨h, g, d, t, os⟩ →
      wpAny (model prog w) A' (checkBuiltinCall "type.__call__" ⟨.ref C :: rest, kw⟩) Q E ⟨h, g, d, t, os⟩ := by
    intro A' E Q hQ
    have lk : W.Looks (model prog w) h (isInstance (.ref C) (.type "type")) true := by
      intro A Q E s hk hq
      obtain ⟨h2, g2, d2, t2, os2⟩ := s
      exact wpAny_isInstance (T := "type") (U := "type") (b := true) ⟨_, hk _ _ hC, rfl⟩ tc_sub hq
    have := @W.check_slot (model prog w) A' E ⟨h, g, d, t, os⟩ "type.__call__" "type" "__call__" (.ref C) rest kw Q
    exact this tc_kind tc_split lk (W.tc_args _ _ _) hQ
  have go := etype (A' := A) F hb hC hi hs hl hR
  exact ck _ _ _ go
end Mf
namespace Mf
open PySem L2
theorem kBG : builtinKind "BaseException.__getattribute__" = some Manifest.AttrKind.slot := by decide +kernel
theorem sBG : splitId "BaseException.__getattribute__" = some ("BaseException", "__getattribute__") := by decide +kernel
theorem kin_cls {prog : Program} {w : World} {A : Around} {E : Value → Shared → Prop} {s : Shared}
    {K : W.Frag} {x D : Addr} {ox od : Obj} {Q : Option Value → Shared → Prop} (C : ExcC K D)
    (X : K.In s.heap) (I : W.InstAt s.heap x ox D (some od))
    (h : Q (some (.ref D)) { heap := s.heap, gens := s.gens, drawn := s.drawn, toks := s.toks + 1, os := s.os }) :
    wpAny (model prog w) A (getAttr? (.ref x) (Str.ofString "__class__")) Q E s := by
  have hc : (W.clsIn K D).isSome = true := by
    obtain ⟨cd, hc, -⟩ := W.any_some C.hd
    rw [hc]; rfl
  have hf := W.findObj_data (od := od) hc C.ha C.hn C.ht
  obtain ⟨hp, g, d, t, os⟩ := s
  have L0 := W.InstAt.type I (M := model prog w)
  have L1 := W.looks_findIn X C.hg (M := model prog w)
  have L2 := W.looks_findIn X C.hk (M := model prog w)
  have L3 := W.looks_find X I hf (M := model prog w)
  have sub : W.Looks (model prog w) hp (isInstance (.ref x) (.type "BaseException")) true :=
    W.Looks.andThen L0 (W.looks_subIn X C.hs)
  unfold getAttr?
  refine wpAny_bind (wpAny_mkText ?_)
  unfold getAttrBy?
  refine wpAny_bind (wpAny_attempt (wpAny_holding ?_))
  refine wpAny_bind (L0.at (wpAny_bind (L1.at ?_)))
  dsimp only
  have e1 : (onTheHeap (.ref D) && (Value.builtin "BaseException.__getattribute__" == Value.builtin "object.__getattribute__")) = false := by
    rw [Bool.and_eq_false_iff]; exact .inr (by decide)
  rw [e1, if_neg Bool.false_ne_true]
  unfold getAttrByItsOwn hookBefore
  refine wpAny_bind ?_
  rw [if_pos (show onTheHeap (.ref D) = true from rfl)]
  refine L2.at ?_
  refine wpAny_bind (wpAny_attempt (wpAny_holding ?_))
  unfold callGetattribute
  rw [Bool.false_and, if_neg Bool.false_ne_true]
  unfold boundAndCalled
  refine wpAny_bind (wpAny_of_eq (F.excAttr_ValueError.ga.bind (.ref x)) ?_)
  refine wpAny_call ?_
  refine codeAny_call_builtin F.excAttr_ValueError.ga.plain F.entry_bexc_ga ?_
  have ck : ∀ (A' : Around) (E' : Value → Shared → Prop) (Q' : Unit → Shared → Prop) (s' : Shared), s'.heap = hp → Q' () s' →
      wpAny (model prog w) A' (checkBuiltinCall "BaseException.__getattribute__" ⟨[.ref x, .str (Str.ofString "__class__") t], []⟩) Q' E' s' := by
    intro A' E' Q' s' hh hq
    subst hh
    have := @W.check_slot (model prog w) A' E' s' "BaseException.__getattribute__" "BaseException" "__getattribute__" (.ref x) [.str (Str.ofString "__class__") t] [] Q'
    exact this kBG sBG sub (F.args_bexc_ga _ _) hq
  refine ck _ _ _ _ rfl ?_
  unfold Builtin.«object.__getattribute__»
  refine wpAny_bind (wpAny_of_eq rfl ?_)
  show wpAny (model prog w) _ (do
      let name ← Builtin.ObjectAttr.attrName (.str (Str.ofString "__class__") t)
      _) _ _ _
  refine wpAny_bind (wpAny_pure ?_)
  refine wpAny_bind (L0.at ?_)
  refine wpAny_bind (L3.at ?_)
  dsimp only
  unfold Builtin.ObjectAttr.bindTo
  refine wpAny_bind (wpAny_holding (wpAny_call (W.class_get X I C.hm ?_)))
  refine wpAny_pure ?_
  dsimp only
  rw [W.handedOut_of rfl]
  exact wpAny_pure (wpAny_pure h)
end Mf
namespace Mf
open PySem L2

theorem cls_look {K : W.Frag} {D : Addr} (h : W.hasDictIn K D = true) :
    ∃ c d cd sl, K.lookup D = some ⟨c, d, .cls cd, sl⟩ := by
  obtain ⟨cd, hc, -⟩ := W.any_some h
  unfold W.clsIn at hc
  split at hc
  · rename_i c d cd sl e; exact ⟨_, _, _, _, e⟩
  · exact absurd hc (by simp)

theorem kit_exo {K : W.Frag} {x D : Addr} {ox od : Obj} (C : ExcC K D) :
    W.KitX K (.ref x) (.ref D) fun h => W.InstAt h x ox D (some od) where
  ty := fun _ _ _ I => W.InstAt.type I
  it := by
    intro M h X _ A Q E s k q
    obtain ⟨c, d, cd, sl, e⟩ := cls_look C.hd
    exact wpAny_bind (wpAny_loadPart (k D _ (X D _ e)) (wpAny_pure q))
  ne := by
    intro h tp dd its n sl X ht
    obtain ⟨c, d, cd, sl', e⟩ := cls_look C.hd
    refine Bool.eq_false_iff.mpr fun q => ?_
    have e2 := Value.ref.inj (beq_iff_eq.mp q)
    subst e2
    have := (X D _ e).symm.trans ht
    simp at this
  ca := fun X I k => kin_cls C X I k

theorem inst_exo {P : Program} {w : World} {H : Hp} {h : Heap} {a D dx : Addr} {fs : List (Str × V)} (O : HOk P w H h)
    (ha : H a = some (exo a D (some dx))) (hd : H dx = some (exd dx fs)) :
    ∃ ox od, W.InstAt h a ox D (some od) ∧ ∀ f v, fs.lookup f = some v → ∃ u, W.lookIn f od = some (some u) ∧ RelV v u := by
  obtain ⟨⟨t1, e1⟩, -⟩ := O a _ ha
  obtain ⟨⟨mA, n1, r1⟩, -⟩ := O dx _ hd
  obtain ⟨od, ho, hl⟩ := lookIn_ns n1
  refine ⟨_, od, ⟨e1, rfl, rfl, ho⟩, fun f v hf => ?_⟩
  have r := r1 f
  rw [hf] at r
  obtain ⟨u, hu, ru⟩ := RelO.some_of r
  exact ⟨u, by rw [hl, hu], ru⟩

/-- an attribute of an error that lies in a variable -/
def tXa (K : W.Frag) (n : Str) (te : TE) : TE := fun σ H Q => te σ H fun x H1 =>
  ∃ (a D dx : Addr) (fs : List (Str × V)) (v : V), x = .ref a ∧ H1 a = some (exo a D (some dx)) ∧ H1 dx = some (exd dx fs) ∧
    XfC K D ∧ W.findIn K (.ref D) n = some none ∧ fs.lookup n = some v ∧ Q v H1

theorem pe_xa {X : Cx} {e : PySem.Expr} {te : TE} {pos : Pos} {n : Str} (he : PE X e te)
    (hb : attributeBase e n X.env (eval e X.env) = eval e X.env := by rfl) : PE X (.Attribute e n pos) (tXa X.K n te) := by
  refine ⟨fun pins s σ H Q I h => attr_of hb (thn (he.run pins s σ H _ I h) ?_)⟩
  rintro u s1 ⟨x, H1, I1, rx, a, D, dx, fs, v, rfl, ha, hd, T, hno, hf, q⟩
  obtain ⟨ox, od, J, hl⟩ := inst_exo I1.hok ha hd
  obtain ⟨u', hu, ru⟩ := hl _ _ hf
  have ex : u = .ref a := rx
  subst ex
  exact HandSPX.exc_get I1.kIn J T.ga T.gg T.exC (W.findObj_own T.hdC hno rfl hu) (handed_of ru) ⟨v, H1, I1.tok _, ru, q⟩

/-- isinstance of such an error -/
def rIsO (K : W.Frag) (xs : List V) (H : Hp) (Q : VK) : Prop :=
  ∃ (a D dx : Addr) (fs : List (Str × V)) (c : V) (cv : Value) (b : Bool), xs = [.ref a, c] ∧ H a = some (exo a D (some dx)) ∧
    H dx = some (exd dx fs) ∧ ExcC K D ∧ (∀ u, RelV c u → u = cv) ∧ W.kitOne K (.ref D) cv = some b ∧ Q (.bl b) H

theorem call_isO {X : Cx} : CallR X (.builtin "isinstance") (rIsO X.K) := by
  rintro pins s σ H xs us Q I r ⟨a, D, dx, fs, c, cv, b, rfl, ha, hd, C, hcv, hk, q⟩
  match us, r with
  | [_, _], .cons rx (.cons rc .nil) =>
    obtain ⟨ox, od, J, -⟩ := inst_exo I.hok ha hd
    have ex : _ = Value.ref a := rx
    subst ex
    rw [hcv _ rc]
    exact W.kia_one (kit_exo C) I.kIn J hk (by simp) fun tk => ⟨.bl b, H, I.tok _, rfl, q⟩
end Mf
/-! x[y] by an own __getitem__ that may raise, within a try; own errors raised. -/
namespace Mf
open PySem PySem.Spec PyProof.Rows L2
section
variable {X : Cx} {CX : CXT} {k : Nat} {f C a dx : Addr} {fd : FuncData} {ps : List Str} {sp : Sp} {E : L2.St → XK} {ds : List Value} {dvs : List V} {pins : List (Addr × Obj)} {σ : L2.St} {H : Hp} {s : Shared} {fs : List (Str × V)}
theorem run_inS {A : Around} {Q : VK} {us : List Value} {vs : List V} (F : FnOk X.prog X.w X.K X.mg X.base CX k f fd ps sp) (hr : Room k A) (hb : Binds X.K fd ps ds) (hd : Vals dvs ds) (hx : PassesAt CX X σ (E σ))
    (e0 : Env0 X.prog X.w X.K X.mg X.base A X.stack s H) (I : Inv X pins σ H s) (r : Vals vs us) (h : sp (vs ++ dvs) H Q (E σ)) : wpAny (model X.prog X.w) A (call (.ref f) us) (EP X pins σ Q) X.xe s := by
  have r2 : Vals (vs ++ dvs) (us ++ ds) := r.append hd
  have hl : (us ++ ds).length = ps.length := by rw [← r2.length]; exact F.len _ _ _ _ h
  refine wpAny_call (codeAny_mono (F.run A X.stack s H ⟨us, []⟩ (us ++ ds) (vs ++ dvs) Q (E σ) hr e0 (hb s us I.kIn hl) r2 h) fun r s' hq => ?_)
  rcases r with e | fl
  · exact hx pins H s e s' I hq
  · rcases fl with _ | _ | _ | u
    all_goals first | exact False.elim hq | exact I.after hq
/-- x[y], the def may raise -/
def tGetS (C : Addr) (sp : Sp) (E : L2.St → XK) (to ti : TE) : TE := fun σ H Q => to σ H fun x H1 => ti σ H1 fun y H2 => ∃ a dx fs, x = .ref a ∧ H2 a = some (.ins C dx fs) ∧ sp [x, y] H2 Q (E σ)
theorem pe_getS {o i : Expr} {to ti : TE} {pos : Pos} (m : Meth X.K C "__getitem__" f) (fn : PySem.W.fnIn X.K f = true) (F : FnOk X.prog X.w X.K X.mg X.base CX k f fd ps sp) (hr : Room (k + 1) X.A) (hb : Binds X.K fd ps []) (hx : ∀ σ, PassesAt CX X σ (E σ)) (ho : PE X o to) (hi : PE X i ti)
    (hsl : ∀ x y, subscripted i true x y = runValue (.builtin "lifetime.subscript" ⟨[x, y], []⟩) := by intro _ _; with_unfolding_all rfl) : PE X (.Subscript o i pos) (tGetS C sp E to ti) := by
  refine ⟨fun pins s σ H Q I h => ?_⟩
  refine Subscript_ (binT ho hi I h fun v u s2 x y H2 I2 rx ry q => ?_)
  obtain ⟨a, dx, fs, rfl, ha, q⟩ := q
  cases (show v = Value.ref a from rx)
  obtain ⟨od, J⟩ := Inv.inst I2 ha
  obtain ⟨mm, hF⟩ := I2.fr
  refine PySem.W.sub_K hF I2.ok.mod.kin J m.at_ fn m.fn ?_ (hsl _ _)
  exact run_inS (us := [.ref a, u]) (vs := [.ref a, y]) F hr.in1 hb .nil (hx σ) I2.env0.in1 I2 (.cons rfl (.cons ry .nil)) (by rw [List.append_nil]; exact q)
theorem om_getS {o i : Expr} {to ti : TE} {pos : Pos} (c : CalM X.prog X.w X.K X.mg X.base CX k C "__getitem__" ps sp) (hr : Room (k + 1) X.A) (hx : ∀ σ, PassesAt CX X σ (E σ)) (ho : PE X o to) (hi : PE X i ti)
    (hsl : ∀ x y, subscripted i true x y = runValue (.builtin "lifetime.subscript" ⟨[x, y], []⟩) := by intro _ _; with_unfolding_all rfl) : PE X (.Subscript o i pos) (tGetS C sp E to ti) := by
  obtain ⟨f, fd, M, fn, F, b⟩ := c.ex
  exact pe_getS M fn F hr b hx ho hi hsl
/-- f(..), f may raise -/
theorem pe_calS {x : Str} {p pos : Pos} {e : Expr} {es : List Expr} {t : TA} (c : Cal X.prog X.w X.K X.mg X.base CX k x ps sp) (hr : Room k X.A) (hx : ∀ σ, PassesAt CX X σ (E σ)) (ha : PA X (e :: es) t) (hg : Gl X x := by rfl)
    (hdb : (x == ("__debug__" : Str)) = false := by decide) (he : starEach (e :: es) X.env = (false, eval e X.env) :: starEach es X.env := by rfl) (hpl : (backTo pos (starEach es X.env)).any (·.1) = false := by rfl) :
    PE X (.Call (.Name x p) (e :: es) [] pos) (tCallS sp E t) := by
  obtain ⟨f, fd, F, m, kp, b⟩ := c.ex
  exact pe_callS F hr hg m kp b hx ha hdb he hpl
end
/-- an own error with one field: the class at C, its __init__ -/
structure ErC (P : Program) (w : World) (K : PySem.W.Frag) (mg : Str → Option Value) (base : Heap) (x : Str) (C : Addr) (ps : List Str) (sp : Sp) : Prop where
  ex : ∃ (f : Addr) (fd : FuncData), PySem.W.findIn K (.ref C) "__init__" = some (some (.ref f)) ∧ PySem.W.typeIn K (.ref f) = some (.type "function") ∧ FnOk P w K mg base CX0 1 f fd ps sp ∧ Binds K fd ps []
  oex : OexC K C
  xf : XfC K C
  mgC : mg x = some (.ref C)
  exm : PySem.W.exmOne K (.ref C) (.ref C) = some true
theorem pmk_er {X : Cx} {x : Str} {C : Addr} {ps : List Str} {sp : Sp} {e : Expr} {es : List Expr} {ta : TA} {p pos : Pos} (c : ErC X.prog X.w X.K X.mg X.base x C ps sp) (hr : Room 2 X.A) (hx : Passes CX0 X (fun _ _ _ => False)) (ha : PA X (e :: es) ta) (hg : Gl X x := by rfl)
    (hdb : (x == ("__debug__" : Str)) = false := by decide) (he : starEach (e :: es) X.env = (false, eval e X.env) :: starEach es X.env := by rfl) (hpl : (backTo pos (starEach es X.env)).any (·.1) = false := by rfl) :
    PMk X (.Call (.Name x p) (e :: es) [] pos) (tMkO C sp [] ta) := by
  obtain ⟨f, fd, i, t, F, b⟩ := c.ex
  exact pmk_oex c.oex i t F hr b .nil hx hg c.mgC ha hdb he hpl
end Mf
/-! Calls with keywords, or with defaults, of a def that may raise: within try, or at a frame that lets nothing out. -/
namespace Mf
open PySem PySem.Spec PyProof.Rows L2
/-- what a def may raise is nothing here -/
theorem passF {X : Cx} : Passes (L2.CX X.prog X.w) X (fun _ _ _ => False) := fun _ _ _ _ _ _ _ h => by
  obtain ⟨_, _, _, _, _, _, _, _, _, _, _, _, q⟩ := h
  exact q.elim
def tCallNS (n m : Nat) (sp : Sp) (gV : List V → List V → List V) (E : L2.St → XK) (t tk : TA) : TE := fun σ H Q => t σ H fun vs H1 => tk σ H1 fun zs H2 => vs.length = n ∧ zs.length = m ∧ sp (gV vs zs) H2 Q (E σ)
section
variable {X : Cx} {CX : CXT} {k n : Nat} {f : Addr} {fd : FuncData} {ps ks : List Str} {sp : Sp} {E : L2.St → XK} {x : Str} {p pos : Pos} {e : Expr} {es : List Expr} {kws : List Keyword} {t tk : TA} {g : List Value → List Value → List Value} {gV : List V → List V → List V}
theorem run_fnNS {pins : List (Addr × Obj)} {σ : L2.St} {H : Hp} {s : Shared} {Q : VK} {us ws : List Value} {vs zs : List V} (F : FnOk X.prog X.w X.K X.mg X.base CX k f fd ps sp) (hr : Room k X.A) (hb : KBn X.K fd ps n ks g gV) (hx : PassesAt CX X σ (E σ))
    (I : Inv X pins σ H s) (r : Vals vs us) (rz : Vals zs ws) (l1 : vs.length = n) (l2 : zs.length = ks.length) (h : sp (gV vs zs) H Q (E σ)) : wpAny (model X.prog X.w) X.A (call (.ref f) us (ks.zip ws)) (EP X pins σ Q) X.xe s := by
  have r2 := hb.rel r rz
  refine wpAny_call (codeAny_mono (F.run X.A X.stack s H ⟨us, ks.zip ws⟩ (g us ws) (gV vs zs) Q (E σ) hr I.env0 (hb.to s us ws I.kIn (r.length.symm.trans l1) (rz.length.symm.trans l2)) r2 h) fun r s' hq => ?_)
  cases r with
  | error e => exact hx pins H s e s' I hq
  | ok fl =>
    cases fl with
    | ret u => exact I.after hq
    | next => exact False.elim hq
    | brk => exact False.elim hq
    | cont => exact False.elim hq
theorem pe_callNS (F : FnOk X.prog X.w X.K X.mg X.base CX k f fd ps sp) (hr : Room k X.A) (hg : Gl X x) (hm : X.mg x = some (.ref f)) (hk : PySem.W.keepIn X.K (.ref f) = true) (hb : KBn X.K fd ps n ks g gV) (hx : ∀ σ, PassesAt CX X σ (E σ))
    (ha : PA X (e :: es) t) (hkw : PK X kws tk) (hall : (backToKw pos (keywordEach kws X.env)).all (·.1.isSome) = true := by rfl) (hks : (backToKw pos (keywordEach kws X.env)).filterMap (·.1) = ks := by rfl)
    (hdb : (x == ("__debug__" : Str)) = false := by decide) (he : starEach (e :: es) X.env = (false, eval e X.env) :: starEach es X.env := by rfl)
    (hpl : ((backTo pos (starEach (e :: es) X.env)).any (·.1) || (backToKw pos (keywordEach kws X.env)).any (·.1.isNone)) = false := by rfl) :
    PE X (.Call (.Name x p) (e :: es) kws pos) (tCallNS n ks.length sp gV E t tk) := by
  refine ⟨fun pins s σ H Q I h => ?_⟩
  refine wpAny_Call_Name_kw (ld_glob I hg hm ?_ hdb)
  refine PySem.W.callWith_KW (h₀ := X.base) I.ok.mod.kin hk hall (thn (ha.run pos pins s σ H _ I h) fun us s1 ⟨vs, H1, I1, r, q⟩ => ?_) hpl he
  refine thn (hkw.run pos pins s1 σ H1 _ I1 q) fun ws s2 ⟨zs, H2, I2, rz, l1, l2, q2⟩ => ⟨I2.kIn, ?_⟩
  rw [hks]
  exact run_fnNS F hr hb (hx σ) I2 r rz l1 l2 q2
/-- f(.., k = v) of a def with keyword-only parameters that may raise -/
theorem pe_calkS (c : CalK X.prog X.w X.K X.mg X.base CX k x ps sp n ks gV) (hr : Room k X.A) (hx : ∀ σ, PassesAt CX X σ (E σ)) (ha : PA X (e :: es) t) (hkw : PK X kws tk) (hg : Gl X x := by rfl)
    (hall : (backToKw pos (keywordEach kws X.env)).all (·.1.isSome) = true := by rfl) (hks : (backToKw pos (keywordEach kws X.env)).filterMap (·.1) = ks := by rfl)
    (hdb : (x == ("__debug__" : Str)) = false := by decide) (he : starEach (e :: es) X.env = (false, eval e X.env) :: starEach es X.env := by rfl)
    (hpl : ((backTo pos (starEach (e :: es) X.env)).any (·.1) || (backToKw pos (keywordEach kws X.env)).any (·.1.isNone)) = false := by rfl) :
    PE X (.Call (.Name x p) (e :: es) kws pos) (tCallNS n ks.length sp gV E t tk) := by
  obtain ⟨f, fd, g, F, m, kp, b⟩ := c.ex
  exact pe_callNS F hr hg m kp b hx ha hkw hall hks hdb he hpl
end
end Mf
/-! Generator defs with defaults: what stands behind the top, and their calls. -/
namespace Mf
open PySem PySem.Spec PyProof.Rows L2
section
variable {P : Program} {w : World} {K : PySem.W.Frag} {mg : Str → Option Value} {base : Heap} {x qual : Str} {params : Arguments} {body : List Stmt} {scope : Scope} {dvs : List V} {kws : List (Str × V)} {f : Addr} {fd : FuncData}
theorem FunD_gen {N ps : List Str} {k : Nat} {sp : SpG} (F : FunD K x qual params body scope dvs kws f fd) (S : GScope N ps scope) (len : ∀ vs H Q E, sp vs H Q E → vs.length = ps.length)
    (hbody : ∀ (cdv : Value) (A : Around) (outer : List Env) (s : Shared) (H : Hp) (vs : List V) (Q : List V → Hp → Prop) (E : XK) (pn : List (Addr × Obj)), Room k (A.deeper (envOfC qual scope s.heap.objs.size f cdv)) → sp vs H Q E →
      ∃ t, GSs (gcxOf P w K mg base N qual scope f cdv A outer s H E pn) body t ∧ t { nx := fun ys _ H' => Q ys H', rt := fun ys v H' => v = .non ∧ Q ys H' } [] (start N vs) H) : GFn P w K mg base (k + 1) f fd ps sp := by
  obtain ⟨oc, od, dV, kV, doc, pm, an, cdv, ct, osl, rfl, lk, hcd, _, _⟩ := F.ex
  exact gfn_of lk hcd S len fun A outer s H vs Q E pn hr hsp => hbody cdv A outer s H vs Q E pn hr hsp
end
/-- a generator def with defaults, called by position -/
structure GCD (P : Program) (w : World) (K : PySem.W.Frag) (mg : Str → Option Value) (base : Heap) (k : Nat) (x : Str) (ps : List Str) (sp : SpG) (dvs : List V) : Prop where
  ex : ∃ (f : Addr) (fd : FuncData) (ds : List Value), GFn P w K mg base k f fd ps sp ∧ mg x = some (.ref f) ∧ PySem.W.keepIn K (.ref f) = true ∧ Binds K fd ps ds ∧ Vals dvs ds
/-- the same, called with keywords ks -/
structure GCK (P : Program) (w : World) (K : PySem.W.Frag) (mg : Str → Option Value) (base : Heap) (k : Nat) (x : Str) (ps : List Str) (sp : SpG) (n : Nat) (ks : List Str) (gV : List V → List V → List V) : Prop where
  ex : ∃ (f : Addr) (fd : FuncData) (g : List Value → List Value → List Value), GFn P w K mg base k f fd ps sp ∧ mg x = some (.ref f) ∧ PySem.W.keepIn K (.ref f) = true ∧ KBn K fd ps n ks g gV
section
variable {X : Cx} {k n : Nat} {x : Str} {ps ks : List Str} {sp : SpG} {dvs : List V} {E : XK} {p pos : Pos} {e : Expr} {es : List Expr} {kws : List Keyword} {t tk : TA} {gV : List V → List V → List V}
theorem pg_cald (c : GCD X.prog X.w X.K X.mg X.base k x ps sp dvs) (hr : Room k X.A) (ha : PA X (e :: es) t) (hg : Gl X x := by rfl) (hdb : (x == ("__debug__" : Str)) = false := by decide) (he : starEach (e :: es) X.env = (false, eval e X.env) :: starEach es X.env := by rfl)
    (hpl : (backTo pos (starEach es X.env)).any (·.1) = false := by rfl) : PGen X k (.Call (.Name x p) (e :: es) [] pos) (tCallG sp dvs E t) E := by
  obtain ⟨f, fd, ds, F, m, kp, b, v⟩ := c.ex
  exact pgen_call F hr hg m kp b v ha hdb he hpl
def tCallGK (n m : Nat) (sp : SpG) (gV : List V → List V → List V) (E : XK) (t tk : TA) : TGen := fun σ H cont => t σ H fun vs H1 => tk σ H1 fun zs H2 => vs.length = n ∧ zs.length = m ∧ sp (gV vs zs) H2 cont E
theorem pg_calk (c : GCK X.prog X.w X.K X.mg X.base k x ps sp n ks gV) (hr : Room k X.A) (ha : PA X (e :: es) t) (hkw : PK X kws tk) (hg : Gl X x := by rfl)
    (hall : (backToKw pos (keywordEach kws X.env)).all (·.1.isSome) = true := by rfl) (hks : (backToKw pos (keywordEach kws X.env)).filterMap (·.1) = ks := by rfl)
    (hdb : (x == ("__debug__" : Str)) = false := by decide) (he : starEach (e :: es) X.env = (false, eval e X.env) :: starEach es X.env := by rfl)
    (hpl : ((backTo pos (starEach (e :: es) X.env)).any (·.1) || (backToKw pos (keywordEach kws X.env)).any (·.1.isNone)) = false := by rfl) : PGen X k (.Call (.Name x p) (e :: es) kws pos) (tCallGK n ks.length sp gV E t tk) E := by
  obtain ⟨f, fd, g, F, m, kp, hb⟩ := c.ex
  refine ⟨fun pins s σ H cont I h => ?_⟩
  refine wpAny_Call_Name_kw (ld_glob I hg m ?_ hdb)
  refine PySem.W.callWith_KW (h₀ := X.base) I.ok.mod.kin kp hall (thn (ha.run pos pins s σ H _ I h) fun us s1 ⟨vs, H1, I1, r, q⟩ => ?_) hpl he
  refine thn (hkw.run pos pins s1 σ H1 _ I1 q) fun ws s2 ⟨zs, H2, I2, rz, l1, l2, q2⟩ => ⟨I2.kIn, ?_⟩
  rw [hks]
  have r2 := hb.rel r rz
  refine wpAny_call (codeAny_mono (F.run X.A X.stack s2 H2 ⟨us, ks.zip ws⟩ (g us ws) (gV vs zs) cont E hr I2.env0 (hb.to s2 us ws I2.kIn (r.length.symm.trans l1) (rz.length.symm.trans l2)) r2 q2) fun r s' hq => ?_)
  cases r with
  | error e => exact False.elim hq
  | ok fl =>
    cases fl with
    | ret u => exact ⟨H2, s2, [], I2, .nil, hq⟩
    | next => exact False.elim hq
    | brk => exact False.elim hq
    | cont => exact False.elim hq
end
end Mf
/-! `yield from` a list. -/
namespace Mf
open PySem L2
theorem special_list_item {prog : Program} {w : World} {A : Around} {E : Value → Shared → Prop} {s : Shared} {it l : Addr} {i : Nat} {items : Array Value} {x : Value} {Q : Option Value → Shared → Prop}
    (hi : s.heap.IsListIter it l i) (hl : s.heap.IsList l items) (hx : items[i]? = some x)
    (h : ∀ h' : Heap, h'.IsListIter it l (i + 1) → Heap.SameBut it s.heap h' → Q (some x) { s with heap := h' }) :
    wpAny (model prog w) A (callSpecial? (.ref it) "__next__") Q E s := by
  refine wpAny_callSpecial?_slot hi.typeIs slot_listiter_next ?_
  refine wpAny_call_entry slot_listiter_next hi.typeIs entry_listiter_next ?_ (args_listiter_next _)
  unfold Builtin.«list_iterator.__next__»
  have ty := hi.typeIs
  obtain ⟨o, ho, hc, hdat⟩ := hi
  refine wpAny_bind (wpAny_of_eq (a := (.ref it, [])) rfl ?_)
  refine wpAny_bind (wpAny_field ho hdat (x := .ref l) rfl ?_)
  refine wpAny_ite_false (by rfl) ?_
  refine wpAny_bind (wpAny_field ho hdat (x := .int (i : Int) 0) rfl ?_)
  obtain ⟨ol, hol, hcl, n, hdl⟩ := hl
  refine wpAny_bind (wpAny_seqItems hol hdl ?_)
  have e2 : items[((i : Nat) : Int).toNat]? = some x := hx
  dsimp only
  rw [e2]
  dsimp only
  refine wpAny_bind (wpAny_setField ho hdat (by show 1 < 2; decide) ?_)
  have sb := Heap.SameBut.update s.heap it (Obj.mapFields fun x => x.setIfInBounds 1 (rawInt ((i : Int) + 1)))
  have hn : Heap.IsListIter (s.heap.update it (Obj.mapFields fun x => x.setIfInBounds 1 (rawInt ((i : Int) + 1)))) it l (i + 1) := by
    have dm := Obj.data_mapFields hdat fun x => x.setIfInBounds 1 (rawInt ((i : Int) + 1))
    refine ⟨_, Heap.get?_update_self _ ho (Obj.isFreed_of_fields dm), ?_, ?_⟩
    · rw [Obj.cls_mapFields]; exact hc
    · rw [dm]
      simp [rawInt]
  exact wpAny_pure ⟨_, rfl, h _ hn sb⟩
theorem special_list_end {prog : Program} {w : World} {A : Around} {E : Value → Shared → Prop} {s : Shared} {it l : Addr} {i : Nat} {items : Array Value} {Q : Option Value → Shared → Prop}
    (hh : A.handled = none) (hi : s.heap.IsListIter it l i) (hl : s.heap.IsList l items) (hx : items[i]? = none)
    (h : ∀ (e : Value) (h' : Heap), StopX e h' → Heap.ExtBut it s.heap h' → E e { s with heap := h' }) :
    wpAny (model prog w) A (callSpecial? (.ref it) "__next__") Q E s := by
  refine wpAny_callSpecial?_slot hi.typeIs slot_listiter_next ?_
  refine wpAny_call_entry slot_listiter_next hi.typeIs entry_listiter_next ?_ (args_listiter_next _)
  unfold Builtin.«list_iterator.__next__»
  have ty := hi.typeIs
  obtain ⟨o, ho, hc, hdat⟩ := hi
  refine wpAny_bind (wpAny_of_eq (a := (.ref it, [])) rfl ?_)
  refine wpAny_bind (wpAny_field ho hdat (x := .ref l) rfl ?_)
  refine wpAny_ite_false (by rfl) ?_
  refine wpAny_bind (wpAny_field ho hdat (x := .int (i : Int) 0) rfl ?_)
  obtain ⟨ol, hol, hcl, n, hdl⟩ := hl
  refine wpAny_bind (wpAny_seqItems hol hdl ?_)
  have e2 : items[((i : Nat) : Int).toNat]? = none := hx
  dsimp only
  rw [e2]
  dsimp only
  refine wpAny_bind (wpAny_rule ?_)
  refine wpAny_bind (wpAny_setField ho hdat (by show 0 < 2; decide) ?_)
  have sb := Heap.SameBut.update s.heap it (Obj.mapFields fun x => x.setIfInBounds 0 Value.none)
  generalize s.heap.update it (Obj.mapFields fun x => x.setIfInBounds 0 Value.none) = h2 at sb ⊢
  unfold Builtin.SmallTypes.stopIteration newExc newTuple
  refine wpAny_bind (wpAny_bind (wpAny_newObj_type ?_ (by show 0 ≤ sizeLine; decide)))
  refine wpAny_bind (wpAny_of_eq (a := .none) rfl ?_)
  refine wpAny_newObj_type ?_ (sizeOk_excFields _ _ _ _ _ _ _ _)
  refine wpAny_raiseNew_none (show (Around.in1 A).handled = none from hh) ?_
  exact h _ _ ⟨_, _, _, rfl, Heap.get?_push_size _ rfl, rfl, rfl, rfl⟩ ((sb.extBut.push _).push _)
def tYfL (te : TE) : TYf := fun σ H Q => te σ H fun x H1 => ∃ a xs, x = .ref a ∧ H1 a = some (.lst xs) ∧ Q xs H1
theorem close_list : typeLookup (.type "list_iterator") "close" = pure none := by rw [typeLookup_type, builtinLookup_eq_fast]; kernel_rfl
theorem yf_list {X : Cx} {e : Expr} {te : TE} (he : PE X e te) : YfE X e (tYfL te) := by
  refine ⟨fun pins s σ H Q I h => ?_⟩
  refine thn (he.run pins s σ H _ I h) fun v s1 ⟨x, H1, I1, r1, a, xs, ex, ha, hq⟩ => ?_
  subst ex
  obtain rfl : v = Value.ref a := r1
  obtain ⟨hlen, its, n, rits, hg⟩ := I1.hok a _ ha
  have ht : s1.heap.IsList a its.toArray := ⟨_, hg, rfl, _, rfl⟩
  refine ⟨"list", ht.typeIs, by decide, wpAny_pyIter_list ht ?_⟩
  have ksz : ∀ b o, s1.heap.get? b = some o → b ≠ s1.heap.objs.size := fun b o e => Nat.ne_of_lt (Heap.lt_size e)
  have kp : ∀ b o, s1.heap.get? b = some o → (s1.heap.push { cls := .type "list_iterator", data := .fields #[.ref a, .int 0 0] }).get? b = some o := fun b o e => Heap.get?_push_of_some _ e
  refine ⟨s1.heap.objs.size, H1, xs, fun j h => h.IsListIter s1.heap.objs.size a j ∧ h.IsList a its.toArray, rfl, I1.kept (t' := s1.toks) kp, .inr I1.sz, Nat.ne_of_gt I1.lt, fun y c hy => ?_, I1.hok.fresh (Nat.le_refl _), fun p hp => ?_,
    ⟨⟨_, Heap.get?_push_size _ rfl, rfl, rfl⟩, ht.push _⟩, ⟨⟨"list_iterator", fun j h q => ?_, close_list, by decide⟩, fun j h h' q hk => ?_, fun A' j x s2 Q' E' hA hx q hQ => ?_, fun A' s2 Q' E' hA q hE => ?_⟩, hq⟩
  · obtain ⟨v, o, ho, _⟩ := I1.cell y c hy
    exact ksz c o ho
  · exact ksz p.1 _ (I1.pin p hp).1
  · obtain ⟨⟨o, ho, hc, _⟩, _⟩ := q
    exact ⟨o, ho, hc⟩
  · obtain ⟨⟨o, ho, r⟩, o2, ho2, r2⟩ := q
    exact ⟨⟨o, hk _ o (.inl rfl) ho, r⟩, o2, hk _ o2 (.inr (by rw [ha]; exact fun z => by cases z)) ho2, r2⟩
  · obtain ⟨q1, q2⟩ := q
    obtain ⟨u, hu, ru⟩ := rits.get hx
    have hne : a ≠ s1.heap.objs.size := Nat.ne_of_lt (Heap.lt_size hg)
    exact special_list_item q1 q2 (x := u) (by simpa using hu) fun h' q1' hs => hQ u h' s2.toks ru ⟨q1', q2.extBut hs.extBut hne⟩ fun b o hb eb => hs.extBut b o hb eb
  · obtain ⟨q1, q2⟩ := q
    have hnone : its.toArray[xs.length]? = none := by
      have e := rits.length
      have e2 : its[xs.length]? = none := List.getElem?_eq_none_iff.mpr (by omega)
      simpa using e2
    exact special_list_end hA q1 q2 hnone fun e h' hS hk => hE e h' s2.toks hS fun b o hb eb => hk b o hb eb
end Mf
namespace Mf
open PySem L2
def knOf (ms : List Str) : Kn := fun z => if z ∈ ms then some ("reuse" : Str) else none
/-- the events of a run -/
def traceN (rs : List Pr) (ms : List Str) (y : Str) : List Ev := (askN (bodyOf (pls rs)) 16 y (knOf ms, [])).2
theorem knOf_congr {ms ns : List Str} (h : ∀ z, z ∈ ms ↔ z ∈ ns) : knOf ms = knOf ns := funext fun z => by
  unfold knOf
  simp only [h z]
theorem unk_all {rs : List Pr} (R : RightP rs) (kn : Kn) : unk (rs.map Pr.name) kn ≤ 16 := by
  unfold unk
  refine Nat.le_trans (List.length_filter_le _ _) ?_
  rw [List.length_map]; exact R.few
theorem cst0 {rs : List Pr} (R : RightP rs) (kn : Kn) : cst (rs.map Pr.name) (kn, []) ≤ 224 := by
  have := unk_all R kn
  unfold cst
  show 0 + 14 * unk _ kn ≤ 224
  omega
theorem trace_len {rs : List Pr} (R : RightP rs) {ms : List Str} {y : Str} (h : y ∈ rs.map Pr.name) : (traceN rs ms y).length ≤ 224 := by
  have := ask_cost R.bodyOk (n := 16) (st := (knOf ms, [])) h
  have c := cst0 R (knOf ms)
  unfold traceN
  unfold cst at this c
  omega
section
variable {P : Program} {w : World} {K : PySem.W.Frag} {mg : Str → Option Value} {base : Heap} {Cp C CF : Addr}
/-! ### trace -/
def spTrace (K : PySem.W.Frag) (Cp C : Addr) : SpG := fun vs H cont _ => ∃ (p : Addr) (rs : List Pr) (y : Str) (cv : V) (ms : List Str), vs = [.ref p, .str y, cv] ∧ Prg K Cp H p rs ∧ y ∈ rs.map Pr.name ∧ ArgS K C H cv ms ∧ ms.length < 4000 ∧ (∀ z ∈ ms, z ∈ rs.map Pr.name) ∧
  ∀ ts H', Paired (EvA H') ts (traceN rs ms y) → Same H H' → cont (ts.map V.ref) H'
abbrev sTrace : Stmt := top 26
theorem scTrace : GScope ["program", "name", "cached", "run"] ["program", "name", "cached"] (defScope sTrace) := ⟨rfl, rfl, rfl, by decide +kernel, rfl, by decide +kernel, by decide +kernel⟩
theorem ok_trace {f : Addr} {fd : FuncData} {dvs : List V} {kws : List (Str × V)} (F : FunD K "trace" "trace" (defArgs sTrace) (defBody sTrace) (defScope sTrace) dvs kws f fd) (T : FrC K mg CF) (mk : CalC P w K mg base CX0 1 "FreshRun" CF ["self", "program", "cached"] (spFrInit K Cp C CF) [])
    (c_check_procedure : Cal P w K mg base CX0 2 "check_procedure" ["program", "name"] (spCheck K Cp)) (c_checked_procedures : Cal P w K mg base CX0 3 "checked_procedures" ["program", "names"] (spCheckeds K Cp C)) (c_ask : CalM P w K mg base CX0 35 CF "ask" ["self", "name"] (spAsk K Cp CF 16)) :
    GFn P w K mg base 37 f fd ["program", "name", "cached"] (spTrace K Cp C) := by
  refine FunD_gen F scTrace (fun vs H Q E h => ?_) (fun cdv A outer s H vs Q E pn hr h => ?_)
  · obtain ⟨p, rs, y, cv, ms, rfl, _⟩ := h
    rfl
  · obtain ⟨p, rs, y, cv, ms, rfl, hP, hy, hA, lm, im, k⟩ := h
    have hr2 : Room 2 _ := hr.mono (by decide : 2 ≤ 36); have hr3 : Room 3 _ := hr.mono (by decide : 3 ≤ 36); have hr35 : Room 35 _ := hr.mono (by decide : 35 ≤ 36)
    have mg_FreshRun := T.mgC
    refine ⟨_, gss_cons (gs_ps (ps_expr (pe_cal c_check_procedure hr2 pass0 (pa_cons (pv 0) (pa_cons (pv 1) pa_nil)))))
      (gss_cons (gs_ps (ps_set (i := 3) scTrace.nd rfl (by first | exact Or.inl rfl | exact Or.inr rfl) (pe_mkc mk hr2 pass0 (pa_cons (pv 0) (pa_cons (pe_cal c_checked_procedures hr3 pass0 (pa_cons (pv 0) (pa_cons (pv 2) pa_nil))) pa_nil)))))
      (gss_cons (gs_ps (ps_expr (om_meth (pv 3) T.ins.cl c_ask hr35 pass0 (pa_cons (pv 1) pa_nil))))
      (gss_cons (gs_yieldFrom (yf_list (fldK K (pv 3))) hr.hd) gss_nil))), ?_⟩
    have R : RightP rs := (show RightP rs from let ⟨_, _, _, _, _, _, _, R, _⟩ := hP; R)
    refine ⟨_, rfl, _, rfl, p, rs, y, rfl, hP, hy, ?_⟩
    refine ⟨_, rfl, _, rfl, _, rfl, p, rs, cv, ms, rfl, hP, hA, lm, im, fun q ms2 H1 NS em s1 => ?_⟩
    intro pr dxr npr ndx nex
    refine ⟨H1, pr, dxr, p, q, rs, ms2, rfl, upd_same, npr, ns_grow npr ndx, hP.same s1, NS.same (ns_grow npr ndx), (fun z hz => im z ((em z).mp hz)), fun e d H2 X2 => ⟨rfl, ?_⟩⟩
    have ek : (fun z => if z ∈ ms2 then some ("reuse" : Str) else none) = knOf ms := knOf_congr em
    rw [ek] at X2
    obtain ⟨dx2, ho2⟩ := X2.o
    refine ⟨_, rfl, pr, dx2, _, rfl, ho2, flF_no (by decide) (by decide) (by decide), _, rfl, H1, pr, p, e, d, rs, y, _, rfl, X2, hy, (fun _ => unk_all R _), Nat.le_trans (cst0 R _) (by decide), fun H3 X3 T3 => ?_⟩
    obtain ⟨dx3, ho3⟩ := X3.o
    obtain ⟨ts, he3, pv3⟩ := X3.v
    have l3 : ts.length = (traceN rs ms y).length := Paired.length pv3
    have l4 := trace_len R (ms := ms) hy
    refine ⟨_, rfl, pr, CF, dx3, _, _, rfl, ho3, T.ins.cl, T.nE, flF_e p e d, e, _, rfl, he3, ?_, k ts H3 pv3 (s1.trans X3.s)⟩
    rw [List.length_map, l3]
    exact Nat.le_trans (by show 0 + _ ≤ 224; omega) (by decide)
end
end Mf
/-! The events of a run without those of a closed set of names. -/
namespace Mf
open PySem L2
/-- one event: what is found, and the calls that are open -/
def outE (S : List Str) (q : List Ev × List Str) (e : Ev) : List Ev × List Str :=
  (if (e.getD 0 "" = ("start" : Str) ∧ e.getD 1 "" ∈ S) ∧ ¬ (∃ o ∈ q.2, o ∈ S) then q.1 ++ [[("reuse" : Str), q.2.getLastD "", e.getD 1 ""]] else if ¬ e.getD 1 "" ∈ S then q.1 ++ [e] else q.1,
   if e.getD 0 "" = ("start" : Str) then q.2 ++ [e.getD 1 ""] else if e.getD 0 "" = ("end" : Str) then q.2.dropLast else q.2)
abbrev outsE (S : List Str) (q : List Ev × List Str) (es : List Ev) : List Ev × List Str := es.foldl (outE S) q
theorem outsE_app {S : List Str} {q : List Ev × List Str} {a b : List Ev} : outsE S q (a ++ b) = outsE S (outsE S q a) b := List.foldl_append
theorem ev_ne1 : ¬ ("end" : Str) = ("start" : Str) := by decide +kernel
theorem ev_ne2 : ¬ ("read" : Str) = ("start" : Str) := by decide +kernel
theorem ev_ne3 : ¬ ("read" : Str) = ("end" : Str) := by decide +kernel
/-- what is known is a cycle or a reuse -/
def Kno (kn : Kn) : Prop := ∀ z v, kn z = some v → v = ("cycle" : Str) ∨ v = ("reuse" : Str)
theorem Kno.ne {kn : Kn} (h : Kno kn) {z v : Str} (e : kn z = some v) : ¬ v = ("start" : Str) ∧ ¬ v = ("end" : Str) := by
  rcases h z v e with r | r <;> (subst r; exact ⟨by decide +kernel, by decide +kernel⟩)
theorem Kno.set {kn : Kn} (h : Kno kn) {y v : Str} (e : v = ("cycle" : Str) ∨ v = ("reuse" : Str)) : Kno (setK kn y v) := fun z u q => by
  unfold setK at q
  split at q
  · cases q; exact e
  · exact h z u q
/-- the names of a closed set alone change, from unknown to reuse -/
def OnlyS (S : List Str) (kn kn' : Kn) : Prop := ∀ z, kn' z = kn z ∨ (z ∈ S ∧ kn z = none ∧ kn' z = some ("reuse" : Str))
theorem OnlyS.refl {S : List Str} {kn : Kn} : OnlyS S kn kn := fun _ => .inl rfl
theorem OnlyS.trans {S : List Str} {a b c : Kn} (x : OnlyS S a b) (y : OnlyS S b c) : OnlyS S a c := fun z => by
  rcases x z with h | ⟨h1, h2, h3⟩
  · rcases y z with q | ⟨q1, q2, q3⟩
    · exact .inl (q.trans h)
    · exact .inr ⟨q1, h ▸ q2, q3⟩
  · rcases y z with q | ⟨q1, q2, q3⟩
    · exact .inr ⟨h1, h2, q.trans h3⟩
    · rw [h3] at q2; cases q2
/-- events within a call of one of S: nothing is found -/
def Dull (S : List Str) (es : List Ev) : Prop := ∀ f op, (∃ o ∈ op, o ∈ S) → outsE S (f, op) es = (f, op)
theorem Dull.nil {S : List Str} : Dull S [] := fun _ _ _ => rfl
theorem Dull.app {S : List Str} {a b : List Ev} (x : Dull S a) (y : Dull S b) : Dull S (a ++ b) := fun f op h => by rw [outsE_app, x f op h]; exact y f op h
theorem dull_one {S : List Str} {e : Ev} (h1 : e.getD 1 "" ∈ S) (h2 : ¬ e.getD 0 "" = ("start" : Str)) (h3 : ¬ e.getD 0 "" = ("end" : Str)) : Dull S [e] := fun f op _ => by
  show outE S (f, op) e = _
  unfold outE
  rw [if_neg (fun q => h2 q.1.1), if_neg (fun q => q h1), if_neg h2, if_neg h3]
theorem out_start {S : List Str} {f : List Ev} {op : List Str} {z : Str} (h : z ∈ S) : outE S (f, op) [("start" : Str), z] = (if (∃ o ∈ op, o ∈ S) then f else f ++ [[("reuse" : Str), op.getLastD "", z]], op ++ [z]) := by
  unfold outE
  by_cases c : ∃ o ∈ op, o ∈ S
  · rw [if_neg (fun q => q.2 c), if_neg (fun q => q h), if_pos c]; rfl
  · rw [if_pos ⟨⟨rfl, h⟩, c⟩, if_neg c]; rfl
theorem out_end {S : List Str} {f : List Ev} {op : List Str} {z : Str} (h : z ∈ S) : outE S (f, op ++ [z]) [("end" : Str), z] = (f, op) := by
  unfold outE
  rw [if_neg (fun q => ev_ne1 q.1.1), if_neg (fun q => q h), if_neg (show ¬ ([("end" : Str), z] : Ev).getD 0 "" = ("start" : Str) from ev_ne1), if_pos (show ([("end" : Str), z] : Ev).getD 0 "" = ("end" : Str) from rfl)]
  show (f, (op ++ [z]).dropLast) = _
  rw [List.dropLast_concat]
structure ClosedS (S : List Str) (body : Str → List Step) : Prop where
  go : ∀ z ∈ S, ∀ s ∈ body z, s.1 ∈ (["call", "try"] : List Str) → s.2 ∈ S
/-- a run of one of S: dull within S, or one block -/
def InS (S : List Str) (st st2 : Kn × List Ev) : Prop := OnlyS S st.1 st2.1 ∧ Kno st2.1 ∧ ∃ B, st2.2 = st.2 ++ B ∧ Dull S B
theorem inS_steps {S : List Str} {ask : Str → Kn × List Ev → Kn × List Ev} {y : Str} (hy : y ∈ S) (ha : ∀ z ∈ S, ∀ st, Kno st.1 → InS S st (ask z st)) : ∀ (ss : List Step), (∀ s ∈ ss, s.1 ∈ (["call", "try"] : List Str) → s.2 ∈ S) → ∀ st, Kno st.1 → InS S st (stepsN ask y ss st)
  | [], _, st, k => ⟨.refl, k, [], (List.append_nil _).symm, .nil⟩
  | s :: ss, h, st, k => by
    have one : InS S st (stepN ask y s st) := by
      unfold stepN
      by_cases c : s.1 = ("read" : Str)
      · rw [if_pos c]
        exact ⟨.refl, k, _, rfl, dull_one hy ev_ne2 ev_ne3⟩
      · rw [if_neg c]
        by_cases c2 : s.1 ∈ (["call", "try"] : List Str)
        · rw [if_pos c2]
          have hz := h s List.mem_cons_self c2
          cases e : st.1 s.2 with
          | none => exact ha _ hz st k
          | some v =>
            obtain ⟨o, k2, B, eB, dB⟩ := ha _ hz (st.1, st.2 ++ [[v, y, s.2]]) k
            exact ⟨o, k2, [v, y, s.2] :: B, by rw [eB, List.append_assoc]; rfl, Dull.app (a := [[v, y, s.2]]) (dull_one hy (k.ne e).1 (k.ne e).2) dB⟩
        · rw [if_neg c2]
          exact ⟨.refl, k, [], (List.append_nil _).symm, .nil⟩
    obtain ⟨o1, k1, B1, e1, d1⟩ := one
    obtain ⟨o2, k2, B2, e2, d2⟩ := inS_steps hy ha ss (fun s hs => h s (List.mem_cons_of_mem _ hs)) (stepN ask y s st) k1
    exact ⟨o1.trans o2, k2, B1 ++ B2, by rw [← List.append_assoc, ← e1]; exact e2, d1.app d2⟩
theorem inS_ask {S : List Str} {body : Str → List Step} (C : ClosedS S body) : ∀ (n : Nat) (z : Str), z ∈ S → ∀ st, Kno st.1 → InS S st (askN body n z st) ∧ (st.1 z = none → 0 < n → ∃ B, (askN body n z st).2 = st.2 ++ ([[("start" : Str), z]] ++ B ++ [[("end" : Str), z]]) ∧ Dull S B)
  | 0, z, hz, st, k => ⟨⟨.refl, k, [], (List.append_nil _).symm, .nil⟩, fun _ h => absurd h (Nat.lt_irrefl _)⟩
  | n + 1, z, hz, st, k => by
    cases e : st.1 z with
    | some v => exact ⟨by rw [askN_known e]; exact ⟨.refl, k, [], (List.append_nil _).symm, .nil⟩, fun h => by cases h⟩
    | none =>
      obtain ⟨o, k2, B, eB, dB⟩ := inS_steps hz (fun w hw st k => (inS_ask C n w hw st k).1) (body z) (C.go z hz) (setK st.1 z "cycle", st.2 ++ [[("start" : Str), z]]) (k.set (.inl rfl))
      have ea : askN body (n + 1) z st = (setK (stepsN (askN body n) z (body z) (setK st.1 z "cycle", st.2 ++ [[("start" : Str), z]])).1 z "reuse", (stepsN (askN body n) z (body z) (setK st.1 z "cycle", st.2 ++ [[("start" : Str), z]])).2 ++ [[("end" : Str), z]]) := by
        show (match st.1 z with | some _ => st | none => _) = _
        rw [e]
      generalize stepsN (askN body n) z (body z) (setK st.1 z "cycle", st.2 ++ [[("start" : Str), z]]) = st2 at o k2 eB ea
      have e2 : (askN body (n + 1) z st).2 = st.2 ++ ([[("start" : Str), z]] ++ B ++ [[("end" : Str), z]]) := by
        rw [ea]
        show st2.2 ++ [[("end" : Str), z]] = _
        rw [eB, List.append_assoc, List.append_assoc, List.append_assoc]
      refine ⟨⟨?_, ?_, _, e2, fun f op h => ?_⟩, fun _ _ => ⟨B, e2, dB⟩⟩
      · rw [ea]
        intro w
        show setK st2.1 z "reuse" w = _ ∨ _ ∧ _ ∧ setK st2.1 z "reuse" w = _
        by_cases c : w = z
        · subst c
          exact .inr ⟨hz, e, if_pos rfl⟩
        · rw [show setK st2.1 z "reuse" w = st2.1 w from if_neg c]
          have := o w
          rw [show (setK st.1 z "cycle", st.2 ++ [[("start" : Str), z]]).1 w = st.1 w from if_neg c] at this
          exact this
      · rw [ea]; exact k2.set (.inr rfl)
      · rw [outsE_app, outsE_app]
        show outE S (outsE S (outE S (f, op) [("start" : Str), z]) B) [("end" : Str), z] = _
        rw [out_start hz, if_pos h, dB f _ ⟨z, List.mem_append_right _ (List.mem_singleton.mpr rfl), hz⟩]
        exact out_end hz
/-- the run that knows S beside the run that does not -/
structure RelS (S : List Str) (kn kn' : Kn) : Prop where
  out : ∀ z, ¬ z ∈ S → kn' z = kn z
  ins : ∀ z, z ∈ S → kn' z = some ("reuse" : Str) ∧ (kn z = none ∨ kn z = some ("reuse" : Str))
theorem RelS.only {S : List Str} {kn kn2 kn' : Kn} (r : RelS S kn kn') (o : OnlyS S kn kn2) : RelS S kn2 kn' := ⟨fun z hz => by
    rcases o z with h | h
    · rw [h]; exact r.out z hz
    · exact absurd h.1 hz, fun z hz => ⟨(r.ins z hz).1, by
    rcases o z with h | h
    · rw [h]; exact (r.ins z hz).2
    · exact .inr h.2.2⟩⟩
theorem RelS.set {S : List Str} {kn kn' : Kn} (r : RelS S kn kn') {y v : Str} (h : ¬ y ∈ S) : RelS S (setK kn y v) (setK kn' y v) := ⟨fun z hz => by
    unfold setK
    split
    · rfl
    · exact r.out z hz, fun z hz => by
    have ne : ¬ z = y := fun e => h (e ▸ hz)
    rw [show setK kn' y v z = kn' z from if_neg ne, show setK kn y v z = kn z from if_neg ne]
    exact r.ins z hz⟩
theorem out_own {S : List Str} {f : List Ev} {op : List Str} {e : Ev} (h : ¬ e.getD 1 "" ∈ S) : outE S (f, op) e = (f ++ [e], if e.getD 0 "" = ("start" : Str) then op ++ [e.getD 1 ""] else if e.getD 0 "" = ("end" : Str) then op.dropLast else op) := by
  unfold outE
  rw [if_neg (fun q => h q.1.2), if_pos h]
theorem getLastD_snoc (op : List Str) (y : Str) : (op ++ [y]).getLastD "" = y := by rw [List.getLastD_concat]
/-- both runs stand alike, with the calls of op open -/
structure Both (S : List Str) (op : List Str) (st st' : Kn × List Ev) : Prop where
  rel : RelS S st.1 st'.1
  kno : Kno st.1
  ev : outsE S ([], []) st.2 = (st'.2, op)
theorem both_steps {ns S : List Str} {body : Str → List Step} (C : ClosedS S body) {n : Nat} {y : Str} (hy : ¬ y ∈ S) {op : List Str} (hop : ∀ o ∈ op, ¬ o ∈ S)
    (ha : ∀ z ∈ ns, ¬ z ∈ S → ∀ st st', unk ns st.1 ≤ n → Both S (op ++ [y]) st st' → Both S (op ++ [y]) (askN body n z st) (askN body n z st')) : ∀ (ss : List Step), (∀ s ∈ ss, s.1 ∈ (["call", "try"] : List Str) → s.2 ∈ ns) → ∀ st st', unk ns st.1 ≤ n → Both S (op ++ [y]) st st' → Both S (op ++ [y]) (stepsN (askN body n) y ss st) (stepsN (askN body n) y ss st')
  | [], _, _, _, _, b => b
  | s :: ss, h, st, st', u, b => by
    have noS : ¬ ∃ o ∈ op ++ [y], o ∈ S := fun ⟨o, m, i⟩ => by
      rcases List.mem_append.mp m with m | m
      · exact hop o m i
      · rw [List.mem_singleton.mp m] at i; exact hy i
    have add : ∀ {v z : Str}, ¬ v = ("start" : Str) → ¬ v = ("end" : Str) → outsE S ([], []) (st.2 ++ [[v, y, z]]) = (st'.2 ++ [[v, y, z]], op ++ [y]) := fun {v z} h1 h2 => by
      rw [outsE_app, b.ev]
      show outE S (st'.2, op ++ [y]) [v, y, z] = _
      rw [out_own (show ¬ ([v, y, z] : Ev).getD 1 "" ∈ S from hy), if_neg (show ¬ ([v, y, z] : Ev).getD 0 "" = ("start" : Str) from h1), if_neg (show ¬ ([v, y, z] : Ev).getD 0 "" = ("end" : Str) from h2)]
    have one : Both S (op ++ [y]) (stepN (askN body n) y s st) (stepN (askN body n) y s st') := by
      unfold stepN
      by_cases c : s.1 = ("read" : Str)
      · rw [if_pos c, if_pos c]
        exact ⟨b.rel, b.kno, add ev_ne2 ev_ne3⟩
      · rw [if_neg c, if_neg c]
        by_cases c2 : s.1 ∈ (["call", "try"] : List Str)
        · rw [if_pos c2, if_pos c2]
          have hz := h s List.mem_cons_self c2
          by_cases cs : s.2 ∈ S
          · obtain ⟨k', k⟩ := b.rel.ins _ cs
            rw [k']
            show Both S (op ++ [y]) _ (askN body n s.2 (st'.1, st'.2 ++ [[("reuse" : Str), y, s.2]]))
            rw [askN_known (st := (st'.1, st'.2 ++ [[("reuse" : Str), y, s.2]])) k']
            rcases k with k | k
            · rw [k]
              have np := unk_pos hz k
              obtain ⟨⟨o, k2, _⟩, B⟩ := inS_ask C n s.2 cs st b.kno
              obtain ⟨B, eB, dB⟩ := B k (by omega)
              refine ⟨b.rel.only o, k2, ?_⟩
              show outsE S ([], []) (askN body n s.2 st).2 = _
              rw [eB, outsE_app, b.ev, outsE_app, outsE_app]
              show outE S (outsE S (outE S (st'.2, op ++ [y]) [("start" : Str), s.2]) B) [("end" : Str), s.2] = _
              rw [out_start cs, if_neg noS, getLastD_snoc, dB _ _ ⟨s.2, List.mem_append_right _ (List.mem_singleton.mpr rfl), cs⟩]
              exact out_end cs
            · rw [k]
              show Both S (op ++ [y]) (askN body n s.2 (st.1, st.2 ++ [[("reuse" : Str), y, s.2]])) _
              rw [askN_known (st := (st.1, st.2 ++ [[("reuse" : Str), y, s.2]])) k]
              exact ⟨b.rel, b.kno, add (by decide +kernel) (by decide +kernel)⟩
          · rw [b.rel.out _ cs]
            cases e : st.1 s.2 with
            | none => exact ha _ hz cs _ _ u b
            | some v => exact ha _ hz cs (st.1, st.2 ++ [[v, y, s.2]]) (st'.1, st'.2 ++ [[v, y, s.2]]) u ⟨b.rel, b.kno, add (b.kno.ne e).1 (b.kno.ne e).2⟩
        · rw [if_neg c2, if_neg c2]
          exact b
    exact both_steps C hy hop ha ss (fun s hs => h s (List.mem_cons_of_mem _ hs)) _ _ (Nat.le_trans (unk_le fun z q => stepN_mono (fun _ _ _ r => askN_mono r) q) u) one
theorem both_ask {ns S : List Str} {body : Str → List Step} (C : ClosedS S body) (hb : ∀ y ∈ ns, ∀ s ∈ body y, s.1 ∈ (["call", "try"] : List Str) → s.2 ∈ ns) : ∀ (n : Nat) (y : Str), y ∈ ns → ¬ y ∈ S → ∀ (op : List Str), (∀ o ∈ op, ¬ o ∈ S) → ∀ st st', unk ns st.1 ≤ n → Both S op st st' → Both S op (askN body n y st) (askN body n y st')
  | 0, _, _, _, _, _, _, _, _, b => b
  | n + 1, y, hn, hy, op, hop, st, st', u, b => by
    have ek := b.rel.out y hy
    cases e : st.1 y with
    | some v => rw [askN_known e, askN_known (ek.trans e)]; exact b
    | none =>
      have ea : ∀ q : Kn × List Ev, q.1 y = none → askN body (n + 1) y q = (setK (stepsN (askN body n) y (body y) (setK q.1 y "cycle", q.2 ++ [[("start" : Str), y]])).1 y "reuse", (stepsN (askN body n) y (body y) (setK q.1 y "cycle", q.2 ++ [[("start" : Str), y]])).2 ++ [[("end" : Str), y]]) := fun q h => by
        show (match q.1 y with | some _ => q | none => _) = _
        rw [h]
      rw [ea st e, ea st' (ek.trans e)]
      have us := unk_set (v := "cycle") hn e
      have b1 : Both S (op ++ [y]) (setK st.1 y "cycle", st.2 ++ [[("start" : Str), y]]) (setK st'.1 y "cycle", st'.2 ++ [[("start" : Str), y]]) := ⟨b.rel.set hy, b.kno.set (.inl rfl), by
        show outsE S ([], []) (st.2 ++ [[("start" : Str), y]]) = _
        rw [outsE_app, b.ev]
        show outE S (st'.2, op) [("start" : Str), y] = _
        rw [out_own (show ¬ ([("start" : Str), y] : Ev).getD 1 "" ∈ S from hy)]; rfl⟩
      have b2 := both_steps (ns := ns) C hy hop (fun z hz hs st st' u b => both_ask C hb n z hz hs (op ++ [y]) (fun o ho => by
        rcases List.mem_append.mp ho with h | h
        · exact hop o h
        · rw [List.mem_singleton.mp h]; exact hy) st st' u b) (body y) (hb y hn) _ _ (show unk ns (setK st.1 y "cycle") ≤ n by omega) b1
      generalize stepsN (askN body n) y (body y) (setK st.1 y "cycle", st.2 ++ [[("start" : Str), y]]) = st2 at b2 ⊢
      generalize stepsN (askN body n) y (body y) (setK st'.1 y "cycle", st'.2 ++ [[("start" : Str), y]]) = st2' at b2 ⊢
      refine ⟨b2.rel.set hy, b2.kno.set (.inr rfl), ?_⟩
      show outsE S ([], []) (st2.2 ++ [[("end" : Str), y]]) = (st2'.2 ++ [[("end" : Str), y]], op)
      rw [outsE_app, b2.ev]
      show outE S (st2'.2, op ++ [y]) [("end" : Str), y] = _
      rw [out_own (show ¬ ([("end" : Str), y] : Ev).getD 1 "" ∈ S from hy), if_neg (show ¬ ([("end" : Str), y] : Ev).getD 0 "" = ("start" : Str) from ev_ne1), if_pos (show ([("end" : Str), y] : Ev).getD 0 "" = ("end" : Str) from rfl), List.dropLast_concat]
/-! ### the open calls -/
def stE (op : List Str) (e : Ev) : List Str := if e.getD 0 "" = ("start" : Str) then op ++ [e.getD 1 ""] else if e.getD 0 "" = ("end" : Str) then op.dropLast else op
def okE (S op : List Str) (e : Ev) : Prop := 2 ≤ e.length ∧ (op = [] → e.getD 0 "" = ("start" : Str) ∧ ¬ e.getD 1 "" ∈ S)
def Wf (S : List Str) : List Str → List Ev → Prop
  | _, [] => True
  | op, e :: es => okE S op e ∧ Wf S (stE op e) es
theorem wf_app {S : List Str} : ∀ {a b : List Ev} {op : List Str}, Wf S op a → Wf S (a.foldl stE op) b → Wf S op (a ++ b)
  | [], _, _, _, h => h
  | _ :: a, _, _, ⟨h1, h2⟩, h => ⟨h1, wf_app (a := a) h2 h⟩
def Deep (es : List Ev) : Prop := ∀ (S op : List Str), op ≠ [] → Wf S op es ∧ es.foldl stE op = op
theorem Deep.nil : Deep [] := fun _ _ _ => ⟨trivial, rfl⟩
theorem Deep.app {a b : List Ev} (x : Deep a) (y : Deep b) : Deep (a ++ b) := fun S op h => by
  obtain ⟨h1, h2⟩ := x S op h
  obtain ⟨h3, h4⟩ := y S op h
  exact ⟨wf_app h1 (by rw [h2]; exact h3), by rw [List.foldl_append, h2, h4]⟩
theorem deep_one {v y z : Str} (h1 : ¬ v = ("start" : Str)) (h2 : ¬ v = ("end" : Str)) : Deep [[v, y, z]] := fun S op h => by
  have e : stE op [v, y, z] = op := by
    unfold stE
    rw [if_neg (show ¬ ([v, y, z] : Ev).getD 0 "" = ("start" : Str) from h1), if_neg (show ¬ ([v, y, z] : Ev).getD 0 "" = ("end" : Str) from h2)]
  exact ⟨⟨⟨by show 2 ≤ 3; decide, fun q => absurd q h⟩, trivial⟩, e⟩
theorem st_start (op : List Str) (z : Str) : stE op [("start" : Str), z] = op ++ [z] := if_pos rfl
theorem st_end (op : List Str) (z : Str) : stE (op ++ [z]) [("end" : Str), z] = op := by
  unfold stE
  rw [if_neg (show ¬ (["end", z] : Ev).getD 0 "" = ("start" : Str) from ev_ne1), if_pos (show (["end", z] : Ev).getD 0 "" = ("end" : Str) from rfl), List.dropLast_concat]
theorem wf_block {S : List Str} {B : List Ev} {z : Str} {op : List Str} (d : Deep B) (h : okE S op [("start" : Str), z]) : Wf S op ([[("start" : Str), z]] ++ B ++ [[("end" : Str), z]]) := by
  obtain ⟨h1, h2⟩ := d S (op ++ [z]) (by simp)
  refine wf_app (wf_app ⟨h, trivial⟩ ?_) ⟨⟨by show 2 ≤ 2; decide, fun q => ?_⟩, trivial⟩
  · show Wf S (stE op [("start" : Str), z]) B
    rw [st_start]; exact h1
  · rw [List.foldl_append] at q
    have q : B.foldl stE (stE op [("start" : Str), z]) = [] := q
    rw [st_start, h2] at q
    simp at q
theorem deep_block {B : List Ev} {z : Str} (d : Deep B) : Deep ([[("start" : Str), z]] ++ B ++ [[("end" : Str), z]]) := fun S op h => by
  refine ⟨wf_block d ⟨by show 2 ≤ 2; decide, fun q => absurd q h⟩, ?_⟩
  rw [List.foldl_append, List.foldl_append]
  show stE (B.foldl stE (stE op [("start" : Str), z])) [("end" : Str), z] = op
  rw [st_start, (d S (op ++ [z]) (by simp)).2]
  exact st_end op z
def InD (st st2 : Kn × List Ev) : Prop := Kno st2.1 ∧ ∃ B, st2.2 = st.2 ++ B ∧ Deep B
theorem inD_steps {ask : Str → Kn × List Ev → Kn × List Ev} {y : Str} (ha : ∀ z st, Kno st.1 → InD st (ask z st)) : ∀ (ss : List Step) (st : Kn × List Ev), Kno st.1 → InD st (stepsN ask y ss st)
  | [], st, k => ⟨k, [], (List.append_nil _).symm, .nil⟩
  | s :: ss, st, k => by
    have one : InD st (stepN ask y s st) := by
      unfold stepN
      by_cases c : s.1 = ("read" : Str)
      · rw [if_pos c]
        exact ⟨k, _, rfl, deep_one ev_ne2 ev_ne3⟩
      · rw [if_neg c]
        by_cases c2 : s.1 ∈ (["call", "try"] : List Str)
        · rw [if_pos c2]
          cases e : st.1 s.2 with
          | none => exact ha _ st k
          | some v =>
            obtain ⟨k2, B, eB, dB⟩ := ha s.2 (st.1, st.2 ++ [[v, y, s.2]]) k
            exact ⟨k2, [v, y, s.2] :: B, by rw [eB, List.append_assoc]; rfl, Deep.app (a := [[v, y, s.2]]) (deep_one (k.ne e).1 (k.ne e).2) dB⟩
        · rw [if_neg c2]
          exact ⟨k, [], (List.append_nil _).symm, .nil⟩
    obtain ⟨k1, B1, e1, d1⟩ := one
    obtain ⟨k2, B2, e2, d2⟩ := inD_steps ha ss (stepN ask y s st) k1
    exact ⟨k2, B1 ++ B2, by rw [← List.append_assoc, ← e1]; exact e2, d1.app d2⟩
theorem inD_ask {body : Str → List Step} : ∀ (n : Nat) (z : Str) (st : Kn × List Ev), Kno st.1 → InD st (askN body n z st) ∧ (st.1 z = none → 0 < n → ∃ B, (askN body n z st).2 = st.2 ++ ([[("start" : Str), z]] ++ B ++ [[("end" : Str), z]]) ∧ Deep B)
  | 0, z, st, k => ⟨⟨k, [], (List.append_nil _).symm, .nil⟩, fun _ h => absurd h (Nat.lt_irrefl _)⟩
  | n + 1, z, st, k => by
    cases e : st.1 z with
    | some v => exact ⟨by rw [askN_known e]; exact ⟨k, [], (List.append_nil _).symm, .nil⟩, fun h => by cases h⟩
    | none =>
      obtain ⟨k2, B, eB, dB⟩ := inD_steps (y := z) (fun w st k => (inD_ask (body := body) n w st k).1) (body z) (setK st.1 z "cycle", st.2 ++ [[("start" : Str), z]]) (k.set (.inl rfl))
      have ea : askN body (n + 1) z st = (setK (stepsN (askN body n) z (body z) (setK st.1 z "cycle", st.2 ++ [[("start" : Str), z]])).1 z "reuse", (stepsN (askN body n) z (body z) (setK st.1 z "cycle", st.2 ++ [[("start" : Str), z]])).2 ++ [[("end" : Str), z]]) := by
        show (match st.1 z with | some _ => st | none => _) = _
        rw [e]
      generalize stepsN (askN body n) z (body z) (setK st.1 z "cycle", st.2 ++ [[("start" : Str), z]]) = st2 at k2 eB ea
      have e2 : (askN body (n + 1) z st).2 = st.2 ++ ([[("start" : Str), z]] ++ B ++ [[("end" : Str), z]]) := by
        rw [ea]
        show st2.2 ++ [[("end" : Str), z]] = _
        rw [eB, List.append_assoc, List.append_assoc, List.append_assoc]
      exact ⟨⟨by rw [ea]; exact k2.set (.inr rfl), _, e2, deep_block dB⟩, fun _ _ => ⟨B, e2, dB⟩⟩
end Mf
/-! dicts of whole numbers, keyed by tuples of tuples -/
namespace Mf
open PySem PySem.Spec PyProof.Rows L2
mutual
/-- the value v is the key k -/
inductive NKv (K : PySem.W.Frag) (H : Hp) : NestedKey → V → Prop
  | int (i : Int) : NKv K H (.num i) (.int i)
  | str (z : Str) : NKv K H (.text z) (.str z)
  | tup {a : Addr} {vs : List V} {ks : List NestedKey} : SqT K H a vs → NKall K H ks vs → NKv K H (.tup ks) (.ref a)
inductive NKall (K : PySem.W.Frag) (H : Hp) : List NestedKey → List V → Prop
  | nil : NKall K H [] []
  | cons {k : NestedKey} {v : V} {ks : List NestedKey} {vs : List V} : NKv K H k v → NKall K H ks vs → NKall K H (k :: ks) (v :: vs)
end
mutual
theorem NKv.mv {K : PySem.W.Frag} {H H' : Hp} (f : ∀ a vs, SqT K H a vs → SqT K H' a vs) : ∀ {k : NestedKey} {v : V}, NKv K H k v → NKv K H' k v
  | _, _, .int i => .int i
  | _, _, .str z => .str z
  | _, _, .tup s t => .tup (f _ _ s) (NKall.mv f t)
theorem NKall.mv {K : PySem.W.Frag} {H H' : Hp} (f : ∀ a vs, SqT K H a vs → SqT K H' a vs) : ∀ {ks : List NestedKey} {vs : List V}, NKall K H ks vs → NKall K H' ks vs
  | _, _, .nil => .nil
  | _, _, .cons a b => .cons (NKv.mv f a) (NKall.mv f b)
end
mutual
theorem NKv.is {X : Cx} {pins : List (Addr × Obj)} {σ : L2.St} {H : Hp} {s : Shared} (I : Inv X pins σ H s) : ∀ {k : NestedKey} {v : V} {u : Value}, NKv X.K H k v → RelV v u → NestedIs s.heap k u
  | _, _, u, .int i, r => by obtain ⟨t, rfl⟩ := (show ∃ t, u = .int i t from r); exact .int i t
  | _, _, u, .str z, r => by obtain ⟨t, rfl⟩ := (show ∃ t, u = .str z t from r); exact .text z t
  | _, _, u, .tup (a := a) sq al, r => by
    obtain rfl : u = .ref a := r
    obtain ⟨its, rv, ⟨o, ho, hc, n, hd⟩, _⟩ := I.tuple sq
    exact .tup ho hc hd (by simpa using NKall.is I al rv)
theorem NKall.is {X : Cx} {pins : List (Addr × Obj)} {σ : L2.St} {H : Hp} {s : Shared} (I : Inv X pins σ H s) : ∀ {ks : List NestedKey} {vs : List V} {us : List Value}, NKall X.K H ks vs → Vals vs us → NestedAll s.heap ks us
  | _, _, _, .nil, r => by cases r; exact .nil
  | _, _, _, .cons a b, r => by
    cases r with
    | cons r1 r2 => exact .cons (NKv.is I a r1) (NKall.is I b r2)
end
abbrev NE := NestedKey × Addr × Int
/-- what stands at a dict's own object -/
def NDo (P : Program) (w : World) (a : Addr) (kvs : List NE) : HO := .ext fun h => (a == sysModules) = false ∧ kvs.length ≤ sizeLine ∧ ∃ (q : Obj) (es : Array DictEntry) (ep : Nat) (xs : List (NestedKey × Addr × Value)), h.get? a = some q ∧ q.ExactDict ∧ q.data = .dict es ep ∧
  es.toList = xs.map (entryOfKey (nestedKind P w)) ∧ (xs.map (·.1)).Nodup ∧ Paired (fun (kv : NE) (x : NestedKey × Addr × Value) => kv.1 = x.1 ∧ kv.2.1 = x.2.1 ∧ ∃ t, x.2.2 = Value.int kv.2.2 t) kvs xs
/-- a dict keyed by tuples of tuples stands at a -/
structure NDict (P : Program) (w : World) (K : PySem.W.Frag) (H : Hp) (a : Addr) (kvs : List NE) : Prop where
  o : H a = some (NDo P w a kvs)
  k : ∀ kv ∈ kvs, NKv K H kv.1 (.ref kv.2.1) ∧ kv.1.depth ≤ 8
section
variable {X : Cx} {pins : List (Addr × Obj)} {σ : L2.St} {H : Hp} {s : Shared} {a : Addr} {kvs : List NE}
theorem nd_of (I : Inv X pins σ H s) (N : NDict X.prog X.w X.K H a kvs) : (a == sysModules) = false ∧ kvs.length ≤ sizeLine ∧ ∃ xs, s.heap.DictOfH (nestedKind X.prog X.w) a xs ∧ Paired (fun (kv : NE) (x : NestedKey × Addr × Value) => kv.1 = x.1 ∧ kv.2.1 = x.2.1 ∧ ∃ t, x.2.2 = Value.int kv.2.2 t) kvs xs := by
  obtain ⟨⟨hs, hl, q, es, ep, xs, h1, h2, h3, h4, h5, pr⟩, _, _⟩ := (show ObjOk X.prog X.w H s.heap a (NDo X.prog X.w a kvs) from I.hok a _ N.o)
  refine ⟨hs, hl, xs, ⟨q, es, ep, h1, h2, h3, h4, ?_, h5⟩, pr⟩
  have all : ∀ {l : List NE} {m : List (NestedKey × Addr × Value)}, Paired (fun (kv : NE) (x : NestedKey × Addr × Value) => kv.1 = x.1 ∧ kv.2.1 = x.2.1 ∧ ∃ t, x.2.2 = Value.int kv.2.2 t) l m → (∀ kv ∈ l, NKv X.K H kv.1 (.ref kv.2.1) ∧ kv.1.depth ≤ 8) → ∀ x ∈ m, (nestedKind X.prog X.w).is s.heap x.1 x.2.1 := by
    intro l m r
    induction r with
    | nil => intro _ x hx; cases hx
    | @cons p q ps qs hq _ ih =>
      intro hk x hx
      rcases List.mem_cons.mp hx with e | hx
      · subst e
        obtain ⟨n1, n2⟩ := hk p List.mem_cons_self
        exact ⟨by rw [← hq.1, ← hq.2.1]; exact NKv.is I n1 rfl, by rw [← hq.1]; exact n2⟩
      · exact ih (fun kv h => hk kv (List.mem_cons_of_mem _ h)) x hx
  exact all pr N.k
/-- what the dict holds at a key -/
def atN (kvs : List NE) (k : NestedKey) : Option Int := (kvs.find? fun kv => decide (kv.1 = k)).map (·.2.2)
theorem atN_rel {kvs : List NE} {xs : List (NestedKey × Addr × Value)} (r : Paired (fun (kv : NE) (x : NestedKey × Addr × Value) => kv.1 = x.1 ∧ kv.2.1 = x.2.1 ∧ ∃ t, x.2.2 = Value.int kv.2.2 t) kvs xs) (k : NestedKey) :
    (atN kvs k = none ∧ atKey xs k = none) ∨ ∃ n b t, atN kvs k = some n ∧ atKey xs k = some (b, .int n t) := by
  induction r with
  | nil => exact .inl ⟨rfl, rfl⟩
  | @cons p q ps qs hq _ ih =>
    unfold atN atKey at ih ⊢
    obtain ⟨h1, h2, t, h3⟩ := hq
    by_cases e : p.1 = k
    · have e2 : q.1 = k := by rw [← h1]; exact e
      rw [List.find?_cons_of_pos (p := fun kv : NE => decide (kv.1 = k)) (decide_eq_true e), List.find?_cons_of_pos (p := fun x : NestedKey × Addr × Value => decide (x.1 = k)) (decide_eq_true e2)]
      refine .inr ⟨p.2.2, q.2.1, t, rfl, ?_⟩
      show some q.2 = _
      rw [← h3]
    · have e2 : ¬ q.1 = k := by rw [← h1]; exact e
      rw [List.find?_cons_of_neg (p := fun kv : NE => decide (kv.1 = k)) (by rw [decide_eq_false e]; decide), List.find?_cons_of_neg (p := fun x : NestedKey × Addr × Value => decide (x.1 = k)) (by rw [decide_eq_false e2]; decide)]
      exact ih
/-- {}, to be such a dict -/
def tNDNew (P : Program) (w : World) : TE := fun _ H Q => ∀ p, H p = none → Q (.ref p) (upd H p (NDo P w p []))
theorem nd_empty {P : Program} {w : World} {H : Hp} (h : Heap) (hb : sysModules < h.objs.size) : ObjOk P w H (h.push { cls := .type "dict", data := .dict #[] }) h.objs.size (NDo P w h.objs.size []) := by
  refine ⟨⟨beq_eq_false_iff_ne.mpr (Ne.symm (Nat.ne_of_lt hb)), Nat.zero_le _, _, #[], 0, [], Heap.get?_push_size _ rfl, ⟨rfl, rfl, rfl⟩, rfl, rfl, List.nodup_nil, .nil⟩, ⟨_, Heap.get?_push_size _ rfl⟩, ?_⟩
  rintro h1 h2 ⟨a1, a2, q, es, ep, xs, b1, b2⟩ st
  exact ⟨a1, a2, q, es, ep, xs, st _ b1, b2⟩
theorem pe_ndnew {pos : Pos} : PE X (.Dict [] [] pos) (tNDNew X.prog X.w) := ⟨fun pins s σ H Q I h =>
  wpAny_Dict_empty ⟨.ref s.heap.objs.size, _, I.laid (a := s.heap.objs.size) (o := NDo X.prog X.w s.heap.objs.size []) (t' := s.toks) (fun _ _ q => Heap.get?_push_of_some _ q) (Nat.le_refl _) (nd_empty s.heap I.big), rfl, h _ (I.hok.fresh (Nat.le_refl _))⟩⟩
def tNDNotIn (P : Program) (w : World) (K : PySem.W.Frag) (ty td : TE) : TE := fun σ H Q => ty σ H fun y H1 => td σ H1 fun x H2 => ∃ a kvs k b, x = .ref a ∧ y = .ref b ∧ NDict P w K H2 a kvs ∧ NKv K H2 k (.ref b) ∧ k.depth ≤ 8 ∧ Q (.bl (!(atN kvs k).isSome)) H2
theorem pc_ndnotin {i o : Expr} {ty td : TE} (hu : X.A.units + 9 < cLine) (hi : PE X i ty) (ho : PE X o td) : PC X .NotIn i o (tNDNotIn X.prog X.w X.K ty td) := by
  refine ⟨fun pins s σ H Q I h => ?_⟩
  refine thn (hi.run pins s σ H _ I h) fun iv s1 ⟨y, H1, I1, ry, q1⟩ => thn (ho.run pins s1 σ H1 _ I1 q1) fun u s2 ⟨x, H2, I2, rx, a, kvs, k, b, ex, ey, N, nk, dp, q2⟩ => ?_
  subst ex ey
  obtain rfl : u = Value.ref a := rx
  obtain rfl : iv = Value.ref b := ry
  obtain ⟨hs, hl, xs, dd, pr⟩ := nd_of I2 N
  refine wpAny_notIn_heap (knd := nestedKind X.prog X.w) (show X.A.in1.units + 8 < cLine by show X.A.units + 1 + 8 < cLine; omega) (show (nestedKind X.prog X.w).is s2.heap k b from ⟨NKv.is I2 nk rfl, dp⟩) hs dd ?_
  have e : (atKey xs k).isSome = (atN kvs k).isSome := by
    rcases atN_rel pr k with ⟨e1, e2⟩ | ⟨n, b', t, e1, e2⟩
    · rw [e1, e2]; rfl
    · rw [e1, e2]; rfl
  rw [e]
  exact ⟨.bl (!(atN kvs k).isSome), H2, I2.tok _, rfl, q2⟩
def tNDGet (P : Program) (w : World) (K : PySem.W.Frag) (td ty : TE) : TE := fun σ H Q => td σ H fun x H1 => ty σ H1 fun y H2 => ∃ a kvs k b n, x = .ref a ∧ y = .ref b ∧ NDict P w K H2 a kvs ∧ NKv K H2 k (.ref b) ∧ k.depth ≤ 8 ∧ atN kvs k = some n ∧ Q (.int n) H2
theorem pe_ndget {o i : Expr} {td ty : TE} {pos : Pos} (hu : X.A.units + 9 < cLine) (ho : PE X o td) (hi : PE X i ty) (hs : NoSl i) : PE X (.Subscript o i pos) (tNDGet X.prog X.w X.K td ty) := by
  refine ⟨fun pins s σ H Q I h => ?_⟩
  refine subD_of PySem.F.slot_dict_getitem.lookup hs (thn (ho.run pins s σ H _ I h) fun u s1 ⟨x, H1, I1, rx, q1⟩ => thn (hi.run pins s1 σ H1 _ I1 q1) fun iv s2 ⟨y, H2, I2, ry, a, kvs, k, b, n, ex, ey, N, nk, dp, e, q2⟩ => ?_)
  subst ex ey
  obtain rfl : u = Value.ref a := rx
  obtain rfl : iv = Value.ref b := ry
  obtain ⟨hs', hl, xs, dd, pr⟩ := nd_of I2 N
  rcases atN_rel pr k with ⟨e1, _⟩ | ⟨n', b', t, e1, e2⟩
  · rw [e] at e1; cases e1
  · rw [e] at e1; cases e1
    refine ⟨dd.typeIs, ?_⟩
    refine wpAny_getItem_heap (knd := nestedKind X.prog X.w) (show X.A.in1.units + 8 < cLine by show X.A.units + 1 + 8 < cLine; omega) (show (nestedKind X.prog X.w).is s2.heap k b from ⟨NKv.is I2 nk rfl, dp⟩) dd e2 ?_
    exact ⟨.int n, H2, I2.tok _, ⟨t, rfl⟩, q2⟩
/-- d[k] = n, k not there -/
def rSetN (P : Program) (w : World) (K : PySem.W.Frag) : TSet := fun o i v H Q => ∃ a kvs k b n, o = .ref a ∧ i = .ref b ∧ v = .int n ∧ NDict P w K H a kvs ∧ NKv K H k (.ref b) ∧ k.depth ≤ 8 ∧ atN kvs k = none ∧ kvs.length < sizeLine ∧ Q (upd H a (NDo P w a (kvs ++ [(k, b, n)])))
theorem set_nd (hu : X.A.units + 9 < cLine) : PSet X (rSetN X.prog X.w X.K) := by
  intro pins s σ H o i v ov iv u Q I ro ri rv h
  obtain ⟨a, kvs, k, b, n, eo, ei, ev, N, nk, dp, e, lt, q⟩ := h
  subst eo ei ev
  cases (show ov = Value.ref a from ro)
  cases (show iv = Value.ref b from ri)
  obtain ⟨t, rfl⟩ := (show ∃ t, u = Value.int n t from rv)
  obtain ⟨hs', hl, xs, dd, pr⟩ := nd_of I N
  have hz : xs.length ≤ sizeLine := by rw [← Paired.length pr]; exact hl
  rcases atN_rel pr k with ⟨_, e2⟩ | ⟨n', b', t', e1, _⟩
  · refine wpAny_setItem_heap (knd := nestedKind X.prog X.w) (hsz := hz) (show X.A.in1.units + 8 < cLine by show X.A.units + 1 + 8 < cLine; omega) (show (nestedKind X.prog X.w).is s.heap k b from ⟨NKv.is I nk rfl, dp⟩) dd fun h' dd' hsb => ?_
    rw [storedH_new e2] at dd'
    obtain ⟨q', es, ep, hq, h2, h3, h4, _, h5⟩ := dd'
    refine ⟨_, d_write I (ob := NDo X.prog X.w a (kvs ++ [(k, b, n)])) (by rw [N.o]; exact True.intro) hsb ⟨q', hq⟩ ⟨⟨hs', by rw [List.length_append, List.length_singleton]; omega, q', es, ep, _, hq, h2, h3, h4, h5, pr.snoc ⟨rfl, rfl, t, rfl⟩⟩, ⟨q', hq⟩, ?_⟩, q⟩
    rintro h1 h2 ⟨a1, a2, q, es, ep, xs, b1, b2⟩ st
    exact ⟨a1, a2, q, es, ep, xs, st _ b1, b2⟩
  · rw [e] at e1; cases e1
def rLenN (P : Program) (w : World) (K : PySem.W.Frag) : List V → Hp → VK → Prop := fun xs H Q => ∃ a kvs, xs = [.ref a] ∧ NDict P w K H a kvs ∧ Q (.int (kvs.length : Nat)) H
theorem call_len_nd : CallR X (.builtin "len") (rLenN X.prog X.w X.K) := by
  intro pins s σ H xs us Q I r h
  obtain ⟨p, kvs, rfl, N, q⟩ := h
  obtain ⟨u, rfl, rx⟩ := vals1 r
  obtain rfl : u = .ref p := rx
  obtain ⟨hs', hl, ys, dd, pr⟩ := nd_of I N
  have hl2 : kvs.length = ys.length := Paired.length pr
  refine call_len_dictH hs' dd (by rw [← hl2]; rw [sizeLine_eq] at hl; omega) ?_
  rw [← hl2]
  exact ⟨.int ((kvs.length : Nat) : Int), H, I.tok _, ⟨_, rfl⟩, q⟩
end
end Mf
namespace Mf
open PySem L2
theorem last_str {op0 : List Str} {la : Str} : atI ((op0 ++ [la]).map V.str) (-1) = some (.str la) := by
  have e2 : ixN ((op0 ++ [la]).map V.str).length (-1) = some op0.length := by
    rw [List.length_map, List.length_append, List.length_singleton]
    unfold ixN
    rw [if_neg (by omega), if_pos (by omega)]
    congr 1
    omega
  unfold atI
  rw [e2]
  show ((op0 ++ [la]).map V.str)[op0.length]? = _
  rw [List.getElem?_map, List.getElem?_append_right (Nat.le_refl _), Nat.sub_self]; rfl
section
variable {P : Program} {w : World} {K : PySem.W.Frag} {mg : Str → Option Value} {base : Heap} {Cp C CF : Addr}
/-! ### _law_without -/
def spWithout : Sp := fun vs H Q _ => ∃ (a kl : Addr) (ts : List Addr) (es : List Ev) (S : List Str) (f2 : List Ev) (op2 : List Str), vs = [.ref a, .ref kl] ∧ H a = some (.lst (ts.map V.ref)) ∧ Paired (EvA H) ts es ∧ es.length ≤ 300 ∧ H kl = some (.lst (S.map V.str)) ∧ outsE S ([], []) es = (f2, op2) ∧ Wf S [] es ∧
  ∀ q us H', H' q = some (.lst (us.map V.ref)) → Paired (EvA H') us f2 → Same H H' → Q (.ref q) H'
abbrev sWithout : Stmt := top 39
theorem scWithout : FnScope ["_law_events", "_law_kept", "_law_event", "_law_found", "_law_opened", "_law_one"] ["_law_events", "_law_kept"] (defScope sWithout) := ⟨rfl, rfl, rfl, by decide +kernel, rfl, by decide +kernel, by decide +kernel⟩
set_option maxHeartbeats 2000000 in
theorem ok_without {f : Addr} {fd : FuncData} (F : Fun K "_law_without" "_law_without" sWithout f fd) (mAny : mg "any" = none) : FnOk P w K mg base CX0 1 f fd ["_law_events", "_law_kept"] spWithout := by
  refine F.ok scWithout (fun vs H Q E h => ?_) (fun cdv A outer s H vs Q E hr h => ?_)
  · obtain ⟨a, kl, ts, es, S, f2, op2, rfl, _⟩ := h
    rfl
  · obtain ⟨a, kl, ts, es, S, f2, op2, rfl, ha, pr, l300, hk, eo, wf, k⟩ := h
    have big : (5000 : Nat) < sizeLine := by decide
    have lt := Paired.length pr
    refine ⟨_, (pss_cons (ps_par (i := 3) (j := 4) (by rfl) scWithout.nd rfl rfl (by decide) rfl rfl (pa_cons (pe_lst pa_nil) (pa_cons (pe_lst pa_nil) pa_nil)) (by rfl))
      (pss_cons (ps_for PassesOwn.never rfl (pi_list (pv 0)) (pg_name (i := 2) scWithout.nd rfl (by first | exact Or.inl rfl | exact Or.inr rfl))
        (C8.pss_cut (ps_if (PW.pt (pw_and (pt_cmpR op_eq (pe_ix (ixt K) (pv 2) pe_int (fun _ _ => rfl)) pe_str (nomark _)) (pw_and (pt_cmpR (oin K) (pe_ix (ixt K) (pv 2) pe_int (fun _ _ => rfl)) (pv 1) (by rfl)) (pw_and1 (pt_not (pt_val (pe_callB (k_any K) (by rfl) mAny (by decide +kernel) (pa_cons (pe_lc (own := [("_law_one", 5)]) (g := (gName 5)) (tt := tYes) rfl scWithout.nd (pi_list (pv 4)) (blkOk_by (own := [("_law_one", 5)]) (N := ["_law_events", "_law_kept", "_law_event", "_law_found", "_law_opened", "_law_one"]) (sc := defScope sWithout) (by decide +kernel)) (fun _ _ _ _ _ => (pg_name (i := 5) scWithout.nd rfl (by first | exact Or.inl rfl | exact Or.inr rfl))) (fun _ _ _ _ _ => pts_nil) (fun _ _ _ _ _ => (pe_cmpR (oin K) (pv 5) (pv 1) (by rfl)))) pa_nil))))))))
          (pss_one (ps_expr (pe_bm PySem.F.plainAttrs_list PySem.F.slot_list_append PySem.F.type_list_append mt_append (pv 3) (pa_cons (pe_tup (pa_cons pe_str (pa_cons (pe_ix (ixl K) (pv 4) (pe_un un_neg pe_int) (fun _ _ => rfl)) (pa_cons (pe_ix (ixt K) (pv 2) pe_int (fun _ _ => rfl)) pa_nil)))) pa_nil)))) (pss_one (ps_if (pt_cmpR (nin K) (pe_ix (ixt K) (pv 2) pe_int (fun _ _ => rfl)) (pv 1) (by rfl))
            (pss_one (ps_expr (pe_bm PySem.F.plainAttrs_list PySem.F.slot_list_append PySem.F.type_list_append mt_append (pv 3) (pa_cons (pv 2) pa_nil)))) pss_nil)))
        (pss_one (ps_if (pt_cmpR op_eq (pe_ix (ixt K) (pv 2) pe_int (fun _ _ => rfl)) pe_str (nomark _))
          (pss_one (ps_expr (pe_bm PySem.F.plainAttrs_list PySem.F.slot_list_append PySem.F.type_list_append mt_append (pv 4) (pa_cons (pe_ix (ixt K) (pv 2) pe_int (fun _ _ => rfl)) pa_nil)))) (pss_one (ps_if (pt_cmpR op_eq (pe_ix (ixt K) (pv 2) pe_int (fun _ _ => rfl)) pe_str (nomark _))
            (pss_one (ps_expr (pe_bm0 PySem.F.plainAttrs_list PySem.F.slot_list_pop PySem.F.type_list_pop mt_pop (pv 4)))) pss_nil))))))
      (pss_one (ps_ret (pv 3))))), ?_⟩
    refine ⟨(by show 0 ≤ sizeLine; decide), fun fo nfo => ⟨(by show 0 ≤ sizeLine; decide), fun od nod => ⟨_, _, rfl, ?_⟩⟩⟩
    have q1 := Same.new (o := .lst []) nfo
    have q2 := Same.new (o := .lst []) nod
    have nod0 : H od = none := q1.free nod
    have fod : fo ≠ od := Ne.symm (ne_none nod upd_same)
    have hfo : (upd (upd H fo (.lst [])) od (.lst [])) fo = some (.lst (([] : List Addr).map V.ref)) := by rw [upd_ne fod]; exact upd_same
    have hod : (upd (upd H fo (.lst [])) od (.lst [])) od = some (.lst (([] : List Str).map V.str)) := upd_same
    have s0 := q1.trans q2
    generalize upd (upd H fo (.lst [])) od (.lst []) = H0 at hfo hod s0 ⊢
    refine ⟨_, rfl, a, rfl, ⟨_, .of (s0 _ _ ha)⟩, ?_⟩
    refine for_it walk_list (fun i σ H' => ∃ (us : List Addr) (fs : List Ev) (op : List Str) (v2 v5 : Option V), σ = [some (.ref a), some (.ref kl), v2, some (.ref fo), some (.ref od), v5] ∧ H' fo = some (.lst (us.map V.ref)) ∧ Paired (EvA H') us fs ∧ fs.length ≤ i ∧ H' od = some (.lst (op.map V.str)) ∧ op.length ≤ i ∧ outsE S (fs, op) (es.drop i) = (f2, op2) ∧ Wf S op (es.drop i) ∧ Same H H')
      ⟨[], [], [], none, none, rfl, hfo, .nil, Nat.le_refl _, hod, Nat.le_refl _, eo, wf, s0⟩ (fun i σ H' _ q => .of (q.choose_spec.choose_spec.choose_spec.choose_spec.choose_spec.2.2.2.2.2.2.2.2 _ _ ha)) ?_ ?_
    · rintro i x σ _ H1 hi ⟨us, fs, op, v2, v5, rfl, h1, p1, l1, ho1, lo1, e1, w1, s1⟩ ⟨rfl, hx⟩
      rw [List.getElem?_map] at hx
      obtain ⟨t, ht0, rfl⟩ := Option.map_eq_some_iff.mp hx
      obtain ⟨e, he, ht⟩ := paired_get pr ht0
      have il := (List.getElem?_eq_some_iff.mp he).1
      have dr : es.drop i = e :: es.drop (i + 1) := by
        rw [List.drop_eq_getElem_cons il, (List.getElem?_eq_some_iff.mp he).2]
      rw [dr] at e1 w1
      obtain ⟨⟨le, ok⟩, w2⟩ := w1
      obtain ⟨x, y, r, rfl⟩ : ∃ x y r, e = x :: y :: r := by
        match e, le with
        | x :: y :: r, _ => exact ⟨x, y, r, rfl⟩
      have ht1 : H1 t = some (.tup ((x :: y :: r).map V.str)) := s1 _ _ ht
      have hk1 := s1 _ _ hk
      have i0 : atI ((x :: y :: r).map V.str) ((0 : Nat) : Int) = some (.str x) := atI_nat rfl
      have i1 : atI ((x :: y :: r).map V.str) ((1 : Nat) : Int) = some (.str y) := atI_nat rfl
      have lu := Paired.length p1
      have e1 : outsE S (outE S (fs, op) (x :: y :: r)) (es.drop (i + 1)) = (f2, op2) := e1
      have es2 : (outE S (fs, op) (x :: y :: r)).2 = stE op (x :: y :: r) := rfl
      -- what is found
      refine ⟨fun σ' H' => ∃ (us' : List Addr) (v5 : Option V), σ' = [some (.ref a), some (.ref kl), some (.ref t), some (.ref fo), some (.ref od), v5] ∧ H' fo = some (.lst (us'.map V.ref)) ∧ Paired (EvA H') us' (outE S (fs, op) (x :: y :: r)).1 ∧ us'.length ≤ i + 1 ∧ H' od = some (.lst (op.map V.str)) ∧ Same H H', ?_, ?_⟩
      · have oe1 : x = ("start" : Str) → y ∈ S → (¬ ∃ o ∈ op, o ∈ S) → (outE S (fs, op) (x :: y :: r)).1 = fs ++ [[("reuse" : Str), op.getLastD "", y]] := fun a b c => if_pos ⟨⟨a, b⟩, c⟩
        have oe2 : ¬ ((x = ("start" : Str) ∧ y ∈ S) ∧ ¬ ∃ o ∈ op, o ∈ S) → y ∈ S → (outE S (fs, op) (x :: y :: r)).1 = fs := fun a b => by
          unfold outE
          rw [if_neg (show ¬ (((x :: y :: r).getD 0 "" = ("start" : Str) ∧ (x :: y :: r).getD 1 "" ∈ S) ∧ ¬ ∃ o ∈ (fs, op).2, o ∈ S) from a), if_neg (fun q => q b)]
        have oe3 : ¬ y ∈ S → (outE S (fs, op) (x :: y :: r)).1 = fs ++ [x :: y :: r] := fun b => by rw [out_own (show ¬ (x :: y :: r).getD 1 "" ∈ S from b)]
        refine ⟨_, rfl, t, _, ((0 : Nat) : Int), _, rfl, rfl, .of ht1, i0, rfl, _, rfl, ite2 (fun q => ?_) fun q => ?_⟩
        · have qx : x = ("start" : Str) := V.str.inj (of_decide_eq_true q)
          refine ⟨_, rfl, t, _, ((1 : Nat) : Int), _, rfl, rfl, .of ht1, i1, _, rfl, kl, _, rfl, .inl (.of hk1), rfl, flat_strs S, _, rfl, ?_⟩
          show if inV (.str y) (S.map V.str) = true then _ else _
          rw [inV_str]
          by_cases cy : y ∈ S
          · rw [decide_eq_true cy]
            refine iteT ⟨_, rfl, od, rfl, ⟨_, .of ho1⟩, fun L nL => ?_⟩
            refine lc_it walk_list (fun j H' => Same H1 H' ∧ H' L = some (.lst (((op.take j).map fun o => decide (o ∈ S)).map V.bl))) ⟨Same.new nL, upd_same⟩ (fun j H' _ q => .of (q.1 _ _ ho1)) ?_ ?_
            · rintro j z _ H3 hj ⟨s3, h3⟩ ⟨rfl, hz⟩
              rw [List.getElem?_map] at hz
              obtain ⟨o, ho, rfl⟩ := Option.map_eq_some_iff.mp hz
              have tk : op.take (j + 1) = op.take j ++ [o] := by rw [List.take_add_one, ho]; rfl
              rw [List.length_map] at hj
              refine ⟨rfl, yes_then ⟨_, rfl, _, rfl, kl, _, rfl, .inl (.of (s3 _ _ hk1)), rfl, flat_strs S, _, h3, by rw [List.length_map, List.length_map, List.length_take]; omega, s3.mut nL, ?_⟩⟩
              show upd H3 L _ L = _
              rw [upd_same, tk, List.map_append, List.map_append]
              show some (HO.lst (_ ++ [V.bl (inV (.str o) (S.map V.str))])) = _
              rw [inV_str]; rfl
            · rintro H3 ⟨s3, h3⟩
              rw [List.length_map, List.take_length] at h3
              refine ⟨L, op.map fun o => decide (o ∈ S), rfl, .of h3, ?_⟩
              by_cases co : ∃ o ∈ op, o ∈ S
              · have ea : (op.map fun o => decide (o ∈ S)).any id = true := by
                  obtain ⟨o, m, i⟩ := co
                  exact List.any_eq_true.mpr ⟨true, List.mem_map.mpr ⟨o, m, decide_eq_true i⟩, rfl⟩
                rw [ea]
                refine ⟨_, rfl, ?_⟩
                refine iteF ?_
                have hk2 := s3 _ _ hk1
                have ht2 := s3 _ _ ht1
                have h12 := s3 _ _ h1
                have ho2 := s3 _ _ ho1
                have p12 := paired_same p1 fun t e (z : EvA H1 t e) => (show EvA H3 t e from s3 _ _ z)
                refine ⟨_, rfl, t, _, ((1 : Nat) : Int), _, rfl, rfl, .of ht2, i1, _, rfl, kl, _, rfl, .inl (.of hk2), rfl, flat_strs S, _, rfl, ?_⟩
                show if (!inV (.str y) (S.map V.str)) = true then _ else _
                rw [inV_str]
                by_cases c3 : y ∈ S
                · rw [decide_eq_true c3]
                  exact iteF ⟨us, _, rfl, h12, by rw [oe2 (fun z => z.2 co) c3]; exact p12, by omega, ho2, s1.trans s3⟩
                · rw [decide_eq_false c3]
                  refine iteT ⟨_, rfl, .inl ⟨rfl, _, .of h12⟩, _, rfl, fo, _, _, rfl, rfl, h12, by rw [List.length_map]; omega, us ++ [t], _, rfl, by rw [upd_same, List.map_append]; rfl, ?_, by rw [List.length_append, List.length_singleton]; omega, by rw [upd_ne (Ne.symm fod)]; exact ho2, (s1.trans s3).mut nfo⟩
                  rw [oe3 c3]
                  refine paired_snoc (paired_same p12 fun t e z => ?_) ?_
                  · show _ = _
                    rw [upd_ne (fun q => by unfold EvA at z; rw [q, h12] at z; cases z)]; exact z
                  · show _ = _
                    rw [upd_ne (fun q => by rw [q, h12] at ht2; cases ht2)]; exact ht2
              · have ea : (op.map fun o => decide (o ∈ S)).any id = false := List.any_eq_false.mpr fun b hb => by
                  obtain ⟨o, m, rfl⟩ := List.mem_map.mp hb
                  have : ¬ o ∈ S := fun i => co ⟨o, m, i⟩
                  simpa using this
                rw [ea]
                refine ⟨_, rfl, ?_⟩
                refine iteT ?_
                have one : op ≠ [] := fun e => (ok e).2 cy
                obtain ⟨op0, la, rfl⟩ : ∃ op0 la, op = op0 ++ [la] := by
                  rcases List.eq_nil_or_concat op with h | ⟨a, b, h⟩
                  · exact absurd h one
                  · exact ⟨a, b, by rw [h, List.concat_eq_append]⟩
                have h13 := s3 _ _ h1
                have ho3 := s3 _ _ ho1
                have ht3 := s3 _ _ ht1
                refine ⟨_, rfl, .inl ⟨rfl, _, .of h13⟩, _, rfl, _, rfl, od, _, _, _, rfl, rfl, .of ho3, last_str, _, rfl, t, _, ((1 : Nat) : Int), _, rfl, rfl, .of ht3, i1, (by show 3 ≤ sizeLine; decide), fun t3 nt3 => ⟨fo, _, _, rfl, rfl, (Same.new nt3) _ _ h13, by rw [List.length_map]; omega, us ++ [t3], _, rfl, by rw [upd_same, List.map_append]; rfl, ?_, by rw [List.length_append, List.length_singleton]; omega, ?_, ((s1.trans s3).trans (Same.new nt3)).mut nfo⟩⟩
                · rw [oe1 qx cy co, getLastD_snoc]
                  refine paired_snoc (paired_same p1 fun t e z => ?_) ?_
                  · have z3 := (Same.new (o := .tup [.str "reuse", .str la, .str y]) nt3) _ _ (s3 _ _ z)
                    show _ = _
                    rw [upd_ne (fun q => by rw [q, (Same.new (o := .tup [.str "reuse", .str la, .str y]) nt3) _ _ h13] at z3; cases z3)]
                    exact z3
                  · show _ = _
                    rw [upd_ne (ne_none nt3 h13)]; exact upd_same
                · rw [upd_ne (Ne.symm fod)]
                  exact (Same.new nt3) _ _ ho3
          · rw [decide_eq_false cy]
            refine iteF ?_
            refine iteF ?_
            have sR : Same H1 H1 := fun _ _ h => h
            have hk2 := sR _ _ hk1
            have ht2 := sR _ _ ht1
            have h12 := sR _ _ h1
            have ho2 := sR _ _ ho1
            have p12 := paired_same p1 fun t e (z : EvA H1 t e) => (show EvA H1 t e from sR _ _ z)
            refine ⟨_, rfl, t, _, ((1 : Nat) : Int), _, rfl, rfl, .of ht2, i1, _, rfl, kl, _, rfl, .inl (.of hk2), rfl, flat_strs S, _, rfl, ?_⟩
            show if (!inV (.str y) (S.map V.str)) = true then _ else _
            rw [inV_str]
            by_cases c3 : y ∈ S
            · rw [decide_eq_true c3]
              exact iteF ⟨us, _, rfl, h12, by rw [oe2 (fun z => cy z.1.2) c3]; exact p12, by omega, ho2, s1.trans sR⟩
            · rw [decide_eq_false c3]
              refine iteT ⟨_, rfl, .inl ⟨rfl, _, .of h12⟩, _, rfl, fo, _, _, rfl, rfl, h12, by rw [List.length_map]; omega, us ++ [t], _, rfl, by rw [upd_same, List.map_append]; rfl, ?_, by rw [List.length_append, List.length_singleton]; omega, by rw [upd_ne (Ne.symm fod)]; exact ho2, (s1.trans sR).mut nfo⟩
              rw [oe3 c3]
              refine paired_snoc (paired_same p12 fun t e z => ?_) ?_
              · show _ = _
                rw [upd_ne (fun q => by unfold EvA at z; rw [q, h12] at z; cases z)]; exact z
              · show _ = _
                rw [upd_ne (fun q => by rw [q, h12] at ht2; cases ht2)]; exact ht2
        · have qx : ¬ x = ("start" : Str) := fun e => q (decide_eq_true (by rw [e]))
          refine iteF ?_
          have sR : Same H1 H1 := fun _ _ h => h
          have hk2 := sR _ _ hk1
          have ht2 := sR _ _ ht1
          have h12 := sR _ _ h1
          have ho2 := sR _ _ ho1
          have p12 := paired_same p1 fun t e (z : EvA H1 t e) => (show EvA H1 t e from sR _ _ z)
          refine ⟨_, rfl, t, _, ((1 : Nat) : Int), _, rfl, rfl, .of ht2, i1, _, rfl, kl, _, rfl, .inl (.of hk2), rfl, flat_strs S, _, rfl, ?_⟩
          show if (!inV (.str y) (S.map V.str)) = true then _ else _
          rw [inV_str]
          by_cases c3 : y ∈ S
          · rw [decide_eq_true c3]
            exact iteF ⟨us, _, rfl, h12, by rw [oe2 (fun z => qx z.1.1) c3]; exact p12, by omega, ho2, s1.trans sR⟩
          · rw [decide_eq_false c3]
            refine iteT ⟨_, rfl, .inl ⟨rfl, _, .of h12⟩, _, rfl, fo, _, _, rfl, rfl, h12, by rw [List.length_map]; omega, us ++ [t], _, rfl, by rw [upd_same, List.map_append]; rfl, ?_, by rw [List.length_append, List.length_singleton]; omega, by rw [upd_ne (Ne.symm fod)]; exact ho2, (s1.trans sR).mut nfo⟩
            rw [oe3 c3]
            refine paired_snoc (paired_same p12 fun t e z => ?_) ?_
            · show _ = _
              rw [upd_ne (fun q => by unfold EvA at z; rw [q, h12] at z; cases z)]; exact z
            · show _ = _
              rw [upd_ne (fun q => by rw [q, h12] at ht2; cases ht2)]; exact ht2
      · rintro σ' H2 ⟨us', v5, rfl, h2, p2, l2, ho2, s2⟩
        have ht2 : H2 t = some (.tup ((x :: y :: r).map V.str)) := s2 _ _ ht
        have eo2 : outE S (fs, op) (x :: y :: r) = ((outE S (fs, op) (x :: y :: r)).1, stE op (x :: y :: r)) := rfl
        have lp := Paired.length p2
        generalize (outE S (fs, op) (x :: y :: r)).1 = f3 at p2 eo2 lp
        rw [eo2] at e1
        have toD : t ≠ od := fun q => by rw [q, ho2] at ht2; cases ht2
        have pD : ∀ {o : HO}, Paired (EvA (upd H2 od o)) us' f3 := fun {o} => paired_same p2 fun t e z => by
          show _ = _
          rw [upd_ne (fun q => by unfold EvA at z; rw [q, ho2] at z; cases z)]; exact z
        refine ⟨_, rfl, t, _, ((0 : Nat) : Int), _, rfl, rfl, .of ht2, i0, rfl, _, rfl, ite2 (fun q => ?_) fun q => ?_⟩
        · have qx : x = ("start" : Str) := V.str.inj (of_decide_eq_true q)
          have st : stE op (x :: y :: r) = op ++ [y] := if_pos qx
          rw [st] at e1 w2
          exact ⟨_, rfl, .inl ⟨rfl, _, .of ho2⟩, _, rfl, t, _, ((1 : Nat) : Int), _, rfl, rfl, .of ht2, i1, od, _, _, rfl, rfl, ho2, by rw [List.length_map]; omega, us', f3, op ++ [y], _, _, rfl, by rw [upd_ne fod]; exact h2, pD, by omega, by rw [upd_same, List.map_append]; rfl, by rw [List.length_append, List.length_singleton]; omega, e1, w2, s2.mut nod0⟩
        · have qx : ¬ x = ("start" : Str) := fun e => q (decide_eq_true (by rw [e]))
          refine ⟨_, rfl, t, _, ((0 : Nat) : Int), _, rfl, rfl, .of ht2, i0, rfl, _, rfl, ite2 (fun q => ?_) fun q => ?_⟩
          · have qe : x = ("end" : Str) := V.str.inj (of_decide_eq_true q)
            have one : op ≠ [] := fun e => qx (ok e).1
            obtain ⟨op0, la, rfl⟩ : ∃ op0 la, op = op0 ++ [la] := by
              rcases List.eq_nil_or_concat op with h | ⟨a, b, h⟩
              · exact absurd h one
              · exact ⟨a, b, by rw [h, List.concat_eq_append]⟩
            have st : stE (op0 ++ [la]) (x :: y :: r) = op0 := by
              unfold stE
              rw [if_neg (show ¬ (x :: y :: r).getD 0 "" = ("start" : Str) from qx), if_pos (show (x :: y :: r).getD 0 "" = ("end" : Str) from qe), List.dropLast_concat]
            rw [st] at e1 w2
            rw [List.length_append, List.length_singleton] at lo1
            refine ⟨_, rfl, .inl ⟨rfl, _, .of ho2⟩, od, _, .str la, rfl, rfl, ho2, ?_, us', f3, op0, _, _, rfl, by rw [upd_ne fod]; exact h2, pD, by omega, ?_, by omega, e1, w2, s2.mut nod0⟩
            · rw [List.map_append, List.length_append]
              show (List.map V.str op0 ++ [V.str la])[(List.map V.str op0).length + 1 - 1]? = _
              rw [Nat.add_sub_cancel, List.getElem?_append_right (Nat.le_refl _), Nat.sub_self]; rfl
            · rw [upd_same, List.map_append]
              show some (HO.lst ((List.map V.str op0 ++ [V.str la]).dropLast)) = _
              rw [List.dropLast_concat]
          · have qe : ¬ x = ("end" : Str) := fun e => q (decide_eq_true (by rw [e]))
            have st : stE op (x :: y :: r) = op := by
              unfold stE
              rw [if_neg (show ¬ (x :: y :: r).getD 0 "" = ("start" : Str) from qx), if_neg (show ¬ (x :: y :: r).getD 0 "" = ("end" : Str) from qe)]
            rw [st] at e1 w2
            exact ⟨us', f3, op, _, _, rfl, h2, p2, by omega, ho2, by omega, e1, w2, s2⟩
    · rintro σ H1 ⟨us, fs, op, v2, v5, rfl, h1, p1, l1, ho1, lo1, e1, w1, s1⟩
      rw [List.length_map, lt, List.drop_length] at e1
      cases e1
      exact ⟨_, rfl, k fo us H1 h1 p1 s1⟩
end
end Mf
namespace Mf
open PySem L2
theorem cut_two {xs : List V} : cutV xs none (some (2 : Int)) = xs.take 2 := by
  unfold cutV HT.sIx
  simp only
  rw [if_neg (by omega), show (2 : Int).toNat = 2 by omega, Nat.sub_zero, List.drop_zero]
  by_cases h : 2 ≤ xs.length
  · rw [Nat.min_eq_left h]
  · rw [Nat.min_eq_right (by omega), List.take_length, List.take_of_length_le (by omega)]
mutual
theorem dp_same {K : PySem.W.Frag} {H H' : Hp} (s : Same H H') : ∀ {v : V} {d : PyData}, Dp K H v d → Dp K H' v d
  | _, _, .non => .non
  | _, _, .bl b => .bl b
  | _, _, .int i => .int i
  | _, _, .str x => .str x
  | _, _, .lst h a => .lst (SameL s h) (dpAll_same s a)
  | _, _, .tup h a => .tup (s.tup h) (dpAll_same s a)
theorem dpAll_same {K : PySem.W.Frag} {H H' : Hp} (s : Same H H') : ∀ {xs : List V} {ds : List PyData}, DpAll K H xs ds → DpAll K H' xs ds
  | _, _, .nil => .nil
  | _, _, .cons a b => .cons (dp_same s a) (dpAll_same s b)
end
/-- the events, as data -/
def evD (es : List Ev) : PyData := .list (es.map fun e => .tuple (e.map PyData.str))
theorem eqv_evs (es : List Ev) : PyData.eqv (evD es) (evD es) = true := by
  refine (eqvMap (f := fun e : Ev => PyData.tuple (e.map PyData.str)) (fun a b => ?_) es es).trans (decide_eq_true rfl)
  exact eqvMap eqv_str a b
theorem bodyOf_suc {rs : List Pr} (R : RightP rs) {z : Str} (hz : z ∈ rs.map Pr.name) {s : Step} (hs : s ∈ bodyOf (pls rs) z) (c : s.1 ∈ calling) : Suc (pls rs) calling z s.2 := by
  obtain ⟨r, hr, rfl⟩ := List.mem_map.mp hz
  have m : (r.name, r.ss) ∈ pls rs := List.mem_map.mpr ⟨r, hr, rfl⟩
  rw [bodyOf_mem (x := pls rs) (ss := r.ss) (by rw [pls_names]; exact R.nd) m] at hs
  exact ⟨r.ss, m, s, hs, c, rfl⟩
def OkEv (es : List Ev) : Prop := ∀ e ∈ es, ∀ x ∈ e, PyData.strOk x = true
theorem OkEv.app {a b : List Ev} (x : OkEv a) (y : OkEv b) : OkEv (a ++ b) := fun e he => (List.mem_append.mp he).elim (x e) (y e)
theorem okEv_two {a b : Str} (x : PyData.strOk a = true) (y : PyData.strOk b = true) : OkEv [[a, b]] := fun e he z hz => by
  rw [List.mem_singleton.mp he] at hz
  simp only [List.mem_cons, List.not_mem_nil, or_false] at hz
  rcases hz with rfl | rfl
  · exact x
  · exact y
theorem okEv_three {a b c : Str} (x : PyData.strOk a = true) (y : PyData.strOk b = true) (w : PyData.strOk c = true) : OkEv [[a, b, c]] := fun e he z hz => by
  rw [List.mem_singleton.mp he] at hz
  simp only [List.mem_cons, List.not_mem_nil, or_false] at hz
  rcases hz with rfl | rfl | rfl
  · exact x
  · exact y
  · exact w
theorem Kno.sok {kn : Kn} (h : Kno kn) {z v : Str} (e : kn z = some v) : PyData.strOk v = true := by
  rcases h z v e with r | r <;> (subst r; decide +kernel)
def Fine (st : Kn × List Ev) : Prop := Kno st.1 ∧ OkEv st.2
theorem fine_steps {ns : List Str} {ask : Str → Kn × List Ev → Kn × List Ev} {y : Str} (hy : PyData.strOk y = true) (ha : ∀ z ∈ ns, ∀ st, Fine st → Fine (ask z st)) : ∀ (ss : List Step), (∀ s ∈ ss, PyData.strOk s.2 = true ∧ (s.1 ∈ (["call", "try"] : List Str) → s.2 ∈ ns)) → ∀ st, Fine st → Fine (stepsN ask y ss st)
  | [], _, _, k => k
  | s :: ss, h, st, k => by
    have one : Fine (stepN ask y s st) := by
      obtain ⟨h1, h2⟩ := h s List.mem_cons_self
      unfold stepN
      by_cases c : s.1 = ("read" : Str)
      · rw [if_pos c]
        exact ⟨k.1, k.2.app (okEv_three (by decide +kernel) hy h1)⟩
      · rw [if_neg c]
        by_cases c2 : s.1 ∈ (["call", "try"] : List Str)
        · rw [if_pos c2]
          cases e : st.1 s.2 with
          | none => exact ha _ (h2 c2) st k
          | some v => exact ha _ (h2 c2) (st.1, st.2 ++ [[v, y, s.2]]) ⟨k.1, k.2.app (okEv_three (k.1.sok e) hy h1)⟩
        · rw [if_neg c2]
          exact k
    exact fine_steps hy ha ss (fun s hs => h s (List.mem_cons_of_mem _ hs)) _ one
theorem fine_ask {ns : List Str} {body : Str → List Step} (hn : ∀ z ∈ ns, PyData.strOk z = true) (hb : ∀ z ∈ ns, ∀ s ∈ body z, PyData.strOk s.2 = true ∧ (s.1 ∈ (["call", "try"] : List Str) → s.2 ∈ ns)) : ∀ (n : Nat) (z : Str), z ∈ ns → ∀ st, Fine st → Fine (askN body n z st)
  | 0, _, _, _, k => k
  | n + 1, z, hz, st, k => by
    cases e : st.1 z with
    | some v => rw [askN_known e]; exact k
    | none =>
      have b := fine_steps (y := z) (hn z hz) (fun w hw st k => fine_ask hn hb n w hw st k) (body z) (hb z hz) (setK st.1 z "cycle", st.2 ++ [[("start" : Str), z]]) ⟨k.1.set (.inl rfl), k.2.app (okEv_two (by decide +kernel) (hn z hz))⟩
      have ea : askN body (n + 1) z st = (setK (stepsN (askN body n) z (body z) (setK st.1 z "cycle", st.2 ++ [[("start" : Str), z]])).1 z "reuse", (stepsN (askN body n) z (body z) (setK st.1 z "cycle", st.2 ++ [[("start" : Str), z]])).2 ++ [[("end" : Str), z]]) := by
        show (match st.1 z with | some _ => st | none => _) = _
        rw [e]
      rw [ea]
      exact ⟨b.1.set (.inr rfl), b.2.app (okEv_two (by decide +kernel) (hn z hz))⟩
theorem kno_of (ms : List Str) : Kno (knOf ms) := fun z v e => by
  unfold knOf at e
  split at e
  · cases e; exact .inr rfl
  · cases e
theorem trace_ok {rs : List Pr} (R : RightP rs) {ms : List Str} {y : Str} (hy : y ∈ rs.map Pr.name) : OkEv (traceN rs ms y) := by
  refine (fine_ask (ns := rs.map Pr.name) (names_ok R) (fun z hz s hs => ⟨?_, fun c => suc_in R (fun _ h => h) (bodyOf_suc R hz hs c)⟩) 16 y hy (knOf ms, []) ⟨kno_of ms, fun e he => nomatch he⟩).2
  obtain ⟨r, hr, rfl⟩ := List.mem_map.mp hz
  rw [bodyOf_mem (x := pls rs) (ss := r.ss) (by rw [pls_names]; exact R.nd) (List.mem_map.mpr ⟨r, hr, rfl⟩)] at hs
  exact (stepB_name (bodyB_st (R.ri r hr).2.1 s hs)).ok
theorem sh_evs {es : List Ev} (h : OkEv es) : SeqAt.shaped (evD es) = true := (Sh.listM (k := 1) (f := fun e : Ev => PyData.tuple (e.map PyData.str)) fun e he => .tuple fun d hd => by
  obtain ⟨x, hx, rfl⟩ := List.mem_map.mp hd
  exact .str (h e he x hx)).sh
/-- the trace with a closed set cached is the trace without the set -/
theorem trace_out {rs : List Pr} (R : RightP rs) {ys : List Str} {sts : List Str} (m : ∀ z, z ∈ ys ↔ Rch (Suc (pls rs) calling) (· ∈ ([] : List Str)) (· ∈ sts) z) (hs : ∀ z ∈ sts, z ∈ rs.map Pr.name) {y : Str} (hy : y ∈ rs.map Pr.name) (ny : ¬ y ∈ ys) : outsE ys ([], []) (traceN rs [] y) = (traceN rs ys y, []) ∧ Wf ys [] (traceN rs [] y) := by
  have inn : ∀ z ∈ ys, z ∈ rs.map Pr.name := fun z hz => rch_in R (fun _ h => h) hs ((m z).mp hz)
  have C : ClosedS ys (bodyOf (pls rs)) := ⟨fun z hz s hs c => (m _).mpr (.step ((m z).mp hz) (bodyOf_suc R (inn z hz) hs c) (by simp))⟩
  have b := both_ask (ns := rs.map Pr.name) C (fun z hz s hs c => suc_in R (fun _ h => h) (bodyOf_suc R hz hs c)) 16 y hy ny [] (by simp) (knOf [], []) (knOf ys, []) (unk_all R _) ⟨⟨fun z hz => (show (if z ∈ ys then some ("reuse" : Str) else none) = (if z ∈ ([] : List Str) then some ("reuse" : Str) else none) by rw [if_neg hz, if_neg (by simp)]), fun z hz => ⟨if_pos hz, .inl rfl⟩⟩, kno_of [], rfl⟩
  refine ⟨b.ev, ?_⟩
  obtain ⟨B, eB, dB⟩ := (inD_ask (body := bodyOf (pls rs)) 16 y (knOf [], []) (kno_of [])).2 rfl (by decide)
  unfold traceN
  rw [eB]
  exact wf_block dB ⟨by show 2 ≤ 2; decide, fun _ => ⟨rfl, ny⟩⟩
section
variable {P : Program} {w : World} {K : PySem.W.Frag} {mg : Str → Option Value} {base : Heap} {Cp C CF : Addr}
theorem PrL.prA {H : Hp} {p : Addr} {r : Pr} (x : PrL H p r) : PrA K H p r := ⟨.of x.1, .inl (.of x.2.1), x.2.2⟩
theorem LisP.prA {H : Hp} {a : Addr} {ps : List Addr} {rs : List Pr} (x : LisP H a ps rs) : Paired (PrA K H) ps rs := paired_same x.2 fun _ _ q => q.prA
theorem pg_same {H H' : Hp} {p dx : Addr} (hp : H p = none) (hd : H dx = none) (kp : ∀ b o, b ≠ p → (upd (upd H dx (.own p)) p (.ins C dx [])) b = some o → H' b = some o) : Same H H' :=
  fun b o e => kp b o (ne_of_none e hp) ((ns_grow hp hd) b o e)
theorem dp_evs {H : Hp} : ∀ {ts : List Addr} {es : List Ev}, Paired (EvA H) ts es → DpAll K H (ts.map V.ref) (es.map fun e => .tuple (e.map PyData.str))
  | [], [], _ => .nil
  | [], _ :: _, h => by cases h
  | _ :: _, [], h => by cases h
  | t :: ts, e :: es, h => by
    cases h with
    | cons a b => exact .cons (.tup (.of a) (dpS e)) (dp_evs b)
theorem ask_met {fa fs aC : Addr} (Ma : MetF K CF "ask" "FreshRun.ask" sFreshRunAsk fa) (Ms : MetF K CF "step" "FreshRun.step" sFreshRunStep fs) (T : FrC K mg CF) (O : PgOps P w K mg base Cp) (TP : PgC K mg Cp) (mg_CALLING_KINDS : mg "CALLING_KINDS" = some (.ref aC)) (qC : ∀ H, SqT K H aC (calling.map V.str)) : ∀ n : Nat, CalM P w K mg base CX0 (2 * n + 3) CF "ask" ["self", "name"] (spAsk K Cp CF n)
  | 0 => Ma.cal (fun _ _ _ _ _ _ us hl => match us, hl with | [_, _], _ => rfl) fun fd F => ok_ask_run (k := 2) (sps := fun _ _ _ _ => False) (by decide) F T O TP (Ms.cal (fun _ _ _ _ _ _ us hl => match us, hl with | [_, _, _, _], _ => rfl) fun fd F => ⟨fun _ _ _ _ h => h.elim, fun _ _ _ _ _ _ _ _ _ _ _ _ _ h => h.elim⟩) (fun m e => by omega)
  | n + 1 => Ma.cal (fun _ _ _ _ _ _ us hl => match us, hl with | [_, _], _ => rfl) fun fd F => ok_ask_run (n := n + 1) (k := 2 * n + 4) (by omega) F T O TP (Ms.cal (fun _ _ _ _ _ _ us hl => match us, hl with | [_, _, _, _], _ => rfl) fun fd F => ok_step_run F T mg_CALLING_KINDS qC (ask_met Ma Ms T O TP mg_CALLING_KINDS qC n)) (fun m e => by rw [show n = m by omega])
theorem step_met {fa fs aC : Addr} (Ma : MetF K CF "ask" "FreshRun.ask" sFreshRunAsk fa) (Ms : MetF K CF "step" "FreshRun.step" sFreshRunStep fs) (T : FrC K mg CF) (O : PgOps P w K mg base Cp) (TP : PgC K mg Cp) (mg_CALLING_KINDS : mg "CALLING_KINDS" = some (.ref aC)) (qC : ∀ H, SqT K H aC (calling.map V.str)) (n : Nat) : CalM P w K mg base CX0 (2 * n + 4) CF "step" ["self", "name", "kind", "word"] (spRStep K Cp CF n) :=
  Ms.cal (fun _ _ _ _ _ _ us hl => match us, hl with | [_, _, _, _], _ => rfl) fun fd F => ok_step_run F T mg_CALLING_KINDS qC (ask_met Ma Ms T O TP mg_CALLING_KINDS qC n)
/-! ### law -/
abbrev sLaw : Stmt := top 40
theorem scLaw : FnScope ["_law_script", "_law_source_here", "_law_procedures", "_law_names_here", "_law_program_here", "_law_kept", "_law_name_here", "_law_events", "_law_body_here"] ["_law_script"] (defScope sLaw) := ⟨rfl, rfl, rfl, by decide +kernel, rfl, by decide +kernel, by decide +kernel⟩
set_option maxHeartbeats 4000000 in
theorem ok_law {f : Addr} {fd : FuncData} (F : Fun K "law" "law" sLaw f fd) (T : PgC K mg Cp) (mk : CalC P w K mg base CX0 5 "Program" Cp ["self", "procedures"] (spPgInit K Cp) [])
    (c_source : Cal P w K mg base CX0 1 "_law_source" ["_law_script"] (spSource K)) (c_program : Cal P w K mg base CX0 4 "_law_program" ["_law_source_here", "_law_most"] spProgram) (c_copy : Cal P w K mg base CX0 1 "_law_copy" ["_law_procedures"] spCopy)
    (c_subset : Cal P w K mg base CX0 2 "_law_subset" ["_law_source_here", "_law_row"] (spSubset K)) (c_spread : Cal P w K mg base CX0 2 "_law_spread" ["_law_procedures", "_law_starts", "_law_kinds", "_law_stops"] spSpread) (c_without : Cal P w K mg base CX0 1 "_law_without" ["_law_events", "_law_kept"] spWithout)
    {aE : Addr} {oE : Obj} (lE : K.lookup aE = some oE) (cE : oE.cls = .type "tuple") (qE : ∀ H, SqT K H aE [])
    (g_trace : GCD P w K mg base 37 "trace" ["program", "name", "cached"] (spTrace K Cp C) [.ref aE]) (gk_trace : GCK P w K mg base 37 "trace" ["program", "name", "cached"] (spTrace K Cp C) 2 ["cached"] (fun vs zs => vs ++ zs))
    (mList : mg "list" = none) : FnOk P w K mg base CX0 41 f fd ["_law_script"] (spLaw K) := by
  refine F.ok scLaw (fun vs H Q E h => ?_) (fun cdv A outer s H vs Q E hr h => ?_)
  · obtain ⟨a, ns, rfl, _⟩ := h
    rfl
  · obtain ⟨a, ns, rfl, hs, hl, k⟩ := h
    have mg_Program := T.mgC
    have hr1 : Room 1 _ := hr.mono (by decide : 1 ≤ 40); have hr2 : Room 2 _ := hr.mono (by decide : 2 ≤ 40); have hr4 : Room 4 _ := hr.mono (by decide : 4 ≤ 40); have hr6 : Room 6 _ := hr.mono (by decide : 6 ≤ 40); have hr37 : Room 37 _ := hr.mono (by decide : 37 ≤ 40)
    have hr_source := hr1; have hr_copy := hr1; have hr_without := hr1; have hr_subset := hr2; have hr_spread := hr2; have hr_program := hr4
    have noE : NoStop K (fun _ _ _ => False) := fun _ _ _ h => h.elim
    refine ⟨_, (pss_cons (ps_set (i := 1) scLaw.nd rfl (by first | exact Or.inl rfl | exact Or.inr rfl) (pe_cal c_source hr_source pass0 (pa_cons (pv 0) pa_nil)))
      (pss_cons (ps_set (i := 2) scLaw.nd rfl (by first | exact Or.inl rfl | exact Or.inr rfl) (pe_cal c_program hr_program pass0 (pa_cons (pv 1) (pa_cons pe_int pa_nil))))
      (pss_cons (ps_setLc (i := 3) (own := [("_law_name_here", 6), ("_law_body_here", 8)]) (g := (gTup K 2 (gCons (gName 6) (gCons (gName 8) gNil)))) (tt := tYes) rfl scLaw.nd rfl rfl (sw_true rfl rfl rfl (by decide +kernel)) (pi_list (pv 2)) (blkOk_by (own := [("_law_name_here", 6), ("_law_body_here", 8)]) (N := ["_law_script", "_law_source_here", "_law_procedures", "_law_names_here", "_law_program_here", "_law_kept", "_law_name_here", "_law_events", "_law_body_here"]) (sc := defScope sLaw) (by decide +kernel)) (fun _ _ _ _ _ => (pg_tup rfl (pgs_cons (pg_name (i := 6) scLaw.nd rfl (by first | exact Or.inl rfl | exact Or.inr rfl)) (pgs_cons (pg_name (i := 8) scLaw.nd rfl (by first | exact Or.inl rfl | exact Or.inr rfl)) pgs_nil)))) (fun _ _ _ _ _ => pts_nil) (fun _ _ _ _ _ => (pv 6)))
      (pss_cons (ps_set (i := 4) scLaw.nd rfl (by first | exact Or.inl rfl | exact Or.inr rfl) (pe_mkc mk hr6 pass0 (pa_cons (pe_cal c_copy hr_copy pass0 (pa_cons (pv 2) pa_nil)) pa_nil)))
      (pss_cons (ps_set (i := 5) scLaw.nd rfl (by first | exact Or.inl rfl | exact Or.inr rfl) (pe_cal c_spread hr_spread pass0 (pa_cons (pv 2) (pa_cons (pe_slice sl_list (pe_cal c_subset hr_subset pass0 (pa_cons (pv 1) (pa_cons (pv 3) pa_nil))) po_none (po_some pe_int)) (pa_cons (pe_lst (pa_cons pe_str (pa_cons pe_str pa_nil))) (pa_cons (pe_lst pa_nil) pa_nil))))))
      (pss_cons (ps_for PassesOwn.never rfl (pi_list (pv 3)) (pg_name (i := 6) scLaw.nd rfl (by first | exact Or.inl rfl | exact Or.inr rfl))
        (pss_one (ps_if (pt_cmpR (nin K) (pv 6) (pv 5) (by rfl))
          (pss_cons (ps_set (i := 7) scLaw.nd rfl (by first | exact Or.inl rfl | exact Or.inr rfl) (pe_listG (pg_cald g_trace hr37 (pa_cons (pv 4) (pa_cons (pv 6) pa_nil))) passF noE hr rfl mList (by decide +kernel)))
          (pss_one (ps_if (pt_cmpR (neD K hr) (pe_listG (pg_calk gk_trace hr37 (pa_cons (pv 4) (pa_cons (pv 6) pa_nil)) (pk_cons (pv 5) pk_nil)) passF noE hr rfl mList (by decide +kernel)) (pe_cal c_without hr_without pass0 (pa_cons (pv 7) (pa_cons (pv 5) pa_nil))) (nomark _))
            (pss_one (ps_ret pe_bl)) pss_nil))) pss_nil)))
      (pss_one (ps_ret pe_bl)))))))), ?_⟩
    have big : (5000 : Nat) < sizeLine := by decide
    refine ⟨_, rfl, a, ns, rfl, hs, hl, fun g H1 _ s1 S1 => ?_⟩
    refine ⟨_, rfl, g, 6, 900000000, rfl, by decide, by decide, S1.mono (by decide), fun pr ps rs H2 L2 R six npr _ k2 S2 => ?_⟩
    have lp : ps.length = rs.length := Paired.length L2.2
    -- the names
    refine ⟨_, rfl, pr, rfl, ⟨_, .of L2.1⟩, fun D hD => ?_⟩
    refine lc_it walk_list (fun i H' => Same H2 H' ∧ H' D = some (.lst (((rs.take i).map Pr.name).map V.str))) ⟨Same.new hD, upd_same⟩ (fun i H' _ q => .of (q.1 _ _ L2.1)) ?_ ?_
    · rintro i x _ H3 hi ⟨s3, h3⟩ ⟨rfl, hx⟩
      rw [List.getElem?_map] at hx
      obtain ⟨q, hq, rfl⟩ := Option.map_eq_some_iff.mp hx
      obtain ⟨r, hr2, pa⟩ := paired_get L2.2 hq
      have p1 := pa.same s3
      rw [List.length_map, lp] at hi
      refine ⟨q, _, rfl, .of p1.1, rfl, _, _, rfl, _, _, rfl, rfl, rfl, yes_then ?_⟩
      refine ⟨_, rfl, _, h3, ?_, s3.mut hD, ?_⟩
      · rw [List.length_map, List.length_map, List.length_take]; omega
      · rw [upd_same, List.take_add_one, hr2, List.map_append, List.map_append]; rfl
    rintro H3 ⟨s3, hD3⟩
    rw [List.length_map, lp, List.take_length] at hD3
    have L3 := L2.same s3
    have S3 := S2.same s3
    clear L2 S2
    have nlen : (rs.map Pr.name).length = rs.length := List.length_map _
    -- the program
    refine ⟨_, rfl, pr, ps, rs, rfl, L3, by omega, fun q qs es HC LC eC nq frC ndC sC => ?_⟩
    have Re := rightP_pls eC R
    intro p dxp np ndx nex
    refine ⟨p, dxp, q, qs, es, rfl, upd_same, .inl (SameL (ns_grow np ndx) (.of LC.1)), paired_same (LisP.prA (K := K) LC) (fun _ _ z => z.same (ns_grow np ndx)), Re, fun HD PD kpD => ⟨rfl, ?_⟩⟩
    have sD := sC.trans (pg_same np ndx kpD)
    have LD := L3.same sD
    have hDD := sD _ _ hD3
    have SD := S3.same sD
    have en : es.map Pr.name = rs.map Pr.name := by rw [← pls_names, ← pls_names, eC]
    clear sC kpD LC frC ndC nex np ndx nq L3 hD3 S3 sD
    -- the closed set
    refine ⟨_, rfl, _, rfl, _, rfl, g, D, rs.map Pr.name, 800000000, rfl, strs_ne SD hDD, .of hDD, by rw [nlen]; omega, SD.mono (by rw [nlen]; omega), fun st0 sts HE sub _ hst kE SE => ?_⟩
    have LE := LD.kp kE SD
    have hDE := kE _ _ (strs_ne SD hDD) hDD
    have PE := PD.sameN (kE.noL SD)
    clear LD hDD PD SD kE
    refine ⟨_, rfl, st0, _, rfl, .of hst, fun sl nsl => ?_⟩
    rw [cut_two, ← List.map_take]
    have q1 := Same.new (o := .lst ((sts.take 2).map V.str)) nsl
    refine ⟨(by show 2 ≤ sizeLine; decide), fun kl nkl => ⟨(by show 0 ≤ sizeLine; decide), fun ol nol => ?_⟩⟩
    have q2 := Same.new (o := .lst [.str "call", .str "try"]) nkl
    have q3 := Same.new (o := .lst []) nol
    have s4 := (q1.trans q2).trans q3
    refine ⟨pr, sl, kl, ol, ps, rs, sts.take 2, calling, [], rfl, LE.same s4, R, q3 _ _ (q2 _ _ upd_same), ((List.take_sublist 2 sts).trans sub).nodup R.nd, fun z hz => sub.subset (List.mem_of_mem_take hz), q3 _ _ upd_same, (fun z hz => hz), upd_same, fun kq ys HF up m hkq nkq s5 => ?_⟩
    have s6 := s4.trans s5
    have hDF := s6 _ _ hDE
    have PF := PE.same s6
    clear LE hDE PE q1 q2 q3 s4 s5 s6 hst nsl nkl nol nkq SE
    rw [← eC] at m
    have hst : ∀ z ∈ sts.take 2, z ∈ es.map Pr.name := fun z hz => by rw [en]; exact sub.subset (List.mem_of_mem_take hz)
    have inn : ∀ z ∈ ys, z ∈ es.map Pr.name := fun z hz => rch_in Re (fun _ h => h) hst ((m z).mp hz)
    have lys : ys.length < 4000 := by
      have := few_in Re up.nd inn
      omega
    refine ⟨_, rfl, D, rfl, ⟨_, .of hDF⟩, ?_⟩
    refine for_it walk_list (fun _ σ H' => ∃ v6 v7 v8 : Option V, σ = [some (.ref a), some (.ref g), some (.ref pr), some (.ref D), some (.ref p), some (.ref kq), v6, v7, v8] ∧ Same HF H') ⟨none, none, none, rfl, fun _ _ h => h⟩ (fun i σ H' _ q => .of (q.choose_spec.choose_spec.choose_spec.2 _ _ hDF)) ?_ ?_
    · rintro i x σ _ H0 hi ⟨v6, v7, v8, rfl, s0⟩ ⟨rfl, hx⟩
      rw [List.getElem?_map] at hx
      obtain ⟨y, hy0, rfl⟩ := Option.map_eq_some_iff.mp hx
      have hy : y ∈ es.map Pr.name := by rw [en]; exact List.mem_of_getElem? hy0
      refine ⟨_, rfl, _, rfl, kq, _, rfl, .inl (.of (s0 _ _ hkq)), rfl, flat_strs ys, _, rfl, ?_⟩
      show if (!inV (.str y) (ys.map V.str)) = true then _ else _
      rw [inV_str]
      by_cases c : y ∈ ys
      · rw [decide_eq_true c]
        exact iteF ⟨_, _, _, rfl, s0⟩
      · rw [decide_eq_false c]
        refine iteT ?_
        refine ⟨_, rfl, _, rfl, p, es, y, .ref aE, [], rfl, PF.same s0, hy, .emp lE cE qE, by decide, by simp, fun ts H1 pv s1 l1 nl1 => ?_⟩
        have q1 := Same.new (o := .lst (ts.map V.ref)) nl1
        have hl1 : (upd H1 l1 (.lst (ts.map V.ref))) l1 = some (.lst (ts.map V.ref)) := upd_same
        have pv1 := paired_same pv fun t e (z : EvA H1 t e) => (show EvA (upd H1 l1 (.lst (ts.map V.ref))) t e from q1 _ _ z)
        have s01 := (s0.trans s1).trans q1
        generalize upd H1 l1 (.lst (ts.map V.ref)) = H2 at hl1 pv1 s01 ⊢
        refine ⟨_, rfl, _, rfl, _, rfl, rfl, rfl, p, es, y, .ref kq, ys, rfl, PF.same s01, hy, .lst (s01 _ _ hkq), lys, inn, fun ts2 H3 pv2 s2 l2 nl2 => ?_⟩
        have q2 := Same.new (o := .lst (ts2.map V.ref)) nl2
        have d2 : Dp K (upd H3 l2 (.lst (ts2.map V.ref))) (.ref l2) (evD (traceN es ys y)) := .lst (.of upd_same) (dp_evs (paired_same pv2 fun t e z => q2 _ _ z))
        have s12 := s2.trans q2
        generalize upd H3 l2 (.lst (ts2.map V.ref)) = H4 at d2 s12 ⊢
        obtain ⟨eo, wf⟩ := trace_out Re m hst hy c
        have l3 := trace_len Re (ms := []) hy
        refine ⟨_, rfl, _, rfl, l1, kq, ts, traceN es [] y, ys, _, _, rfl, s12 _ _ hl1, paired_same pv1 fun t e z => s12 _ _ z, by omega, (s01.trans s12) _ _ hkq, eo, wf, fun q3 us H5 h5 p5 s5 => ?_⟩
        have d3 : Dp K H5 (.ref q3) (evD (traceN es ys y)) := .lst (.of h5) (dp_evs p5)
        have sh := sh_evs (trace_ok Re (ms := ys) hy)
        refine ⟨_, _, dp_same s5 d2, d3, sh, sh, _, rfl, ?_⟩
        rw [eqv_evs]
        exact iteF ⟨_, _, _, rfl, (s01.trans s12).trans s5⟩
    · rintro σ H0 ⟨v6, v7, v8, rfl, s0⟩
      exact k H0
end
end Mf
namespace Mf
open PySem L2
theorem MetF.calC {P : Program} {w : World} {K : PySem.W.Frag} {mg : Str → Option Value} {base : Heap} {CX : CXT} {k : Nat} {x qual : Str} {st : Stmt} {f C : Addr} {ps : List Str} {sp : Sp} (D : MetF K C "__init__" qual st f) (mk : PySem.W.makesIn K C = true) (kc : PySem.W.keepIn K (.ref C) = true) (m : mg x = some (.ref C)) (hb : BindP "__init__" qual st ps)
    (ok : ∀ fd, Fun K "__init__" qual st f fd → FnOk P w K mg base CX k f fd ps sp) : CalC P w K mg base CX k x C ps sp [] := by
  obtain ⟨oc, od, sl, kV, dc, pm, an, cd, ct, a, l, c, q, i, n⟩ := D.ex
  have F := fun_mk (st := st) l c q
  exact ⟨⟨f, _, [], ⟨mk, a, i, kc⟩, ok _ F, m, F.binds hb, .nil⟩⟩
set_option maxHeartbeats 4000000 in
theorem all_mk {l : PySem.W.OpenLaw} {w : World} {K : PySem.W.Frag} {h : Heap} {mg : Str → Option Value} {fa : Addr} (X : K.In h) (G : h.Ns mainGlobals mg) (hfa : mg "law" = some (.ref fa))
    {Cn Cp Cf fICn tDCn t0Cn fCneq fCnle fCnor fCncontains fICp fCpeq fCpgetitem fCpcontains fCplen fICf fCfask fCfstep fDIs_name fDIs_step fDIs_body fDChecked_bodies fDCheck_callees fDPlaces fDCheck_procedure fDChecked_procedures fDSource fDDraw fDName fDNames fDStep fDProgram fDCopy fDBody fDSubset fDSpread fDWithout fDLaw fPTrace kDPTrace t0PTrace0 xKINDS xCALLING_KINDS : Addr}
    {ocCn : Value} {odCn : Option Addr} {slCn : Array (Option Value)} {kVCn dcCn pmCn : Value} {anCn : Option Addr} {cdCn cuCn : Value} {o1Cn o2Cn : Obj} {itsCn : List Value} {n1Cn n2Cn : Nat}
    {ocCneq : Value} {odCneq : Option Addr} {slCneq : Array (Option Value)} {kVCneq dcCneq pmCneq : Value} {anCneq : Option Addr} {cdCneq ctCneq : Value}
    {ocCnle : Value} {odCnle : Option Addr} {slCnle : Array (Option Value)} {kVCnle dcCnle pmCnle : Value} {anCnle : Option Addr} {cdCnle ctCnle : Value}
    {ocCnor : Value} {odCnor : Option Addr} {slCnor : Array (Option Value)} {kVCnor dcCnor pmCnor : Value} {anCnor : Option Addr} {cdCnor ctCnor : Value}
    {ocCncontains : Value} {odCncontains : Option Addr} {slCncontains : Array (Option Value)} {kVCncontains dcCncontains pmCncontains : Value} {anCncontains : Option Addr} {cdCncontains ctCncontains : Value}
    {ocICp : Value} {odICp : Option Addr} {slICp : Array (Option Value)} {kVICp dcICp pmICp : Value} {anICp : Option Addr} {cdICp ctICp : Value}
    {ocCpeq : Value} {odCpeq : Option Addr} {slCpeq : Array (Option Value)} {kVCpeq dcCpeq pmCpeq : Value} {anCpeq : Option Addr} {cdCpeq ctCpeq : Value}
    {ocCpgetitem : Value} {odCpgetitem : Option Addr} {slCpgetitem : Array (Option Value)} {kVCpgetitem dcCpgetitem pmCpgetitem : Value} {anCpgetitem : Option Addr} {cdCpgetitem ctCpgetitem : Value}
    {ocCpcontains : Value} {odCpcontains : Option Addr} {slCpcontains : Array (Option Value)} {kVCpcontains dcCpcontains pmCpcontains : Value} {anCpcontains : Option Addr} {cdCpcontains ctCpcontains : Value}
    {ocCplen : Value} {odCplen : Option Addr} {slCplen : Array (Option Value)} {kVCplen dcCplen pmCplen : Value} {anCplen : Option Addr} {cdCplen ctCplen : Value}
    {ocICf : Value} {odICf : Option Addr} {slICf : Array (Option Value)} {kVICf dcICf pmICf : Value} {anICf : Option Addr} {cdICf ctICf : Value}
    {ocCfask : Value} {odCfask : Option Addr} {slCfask : Array (Option Value)} {kVCfask dcCfask pmCfask : Value} {anCfask : Option Addr} {cdCfask ctCfask : Value}
    {ocCfstep : Value} {odCfstep : Option Addr} {slCfstep : Array (Option Value)} {kVCfstep dcCfstep pmCfstep : Value} {anCfstep : Option Addr} {cdCfstep ctCfstep : Value}
    {ocDIs_name : Value} {odDIs_name : Option Addr} {slDIs_name : Array (Option Value)} {kVDIs_name dcDIs_name pmDIs_name : Value} {anDIs_name : Option Addr} {cdDIs_name ctDIs_name : Value}
    {ocDIs_step : Value} {odDIs_step : Option Addr} {slDIs_step : Array (Option Value)} {kVDIs_step dcDIs_step pmDIs_step : Value} {anDIs_step : Option Addr} {cdDIs_step ctDIs_step : Value}
    {ocDIs_body : Value} {odDIs_body : Option Addr} {slDIs_body : Array (Option Value)} {kVDIs_body dcDIs_body pmDIs_body : Value} {anDIs_body : Option Addr} {cdDIs_body ctDIs_body : Value}
    {ocDChecked_bodies : Value} {odDChecked_bodies : Option Addr} {slDChecked_bodies : Array (Option Value)} {kVDChecked_bodies dcDChecked_bodies pmDChecked_bodies : Value} {anDChecked_bodies : Option Addr} {cdDChecked_bodies ctDChecked_bodies : Value}
    {ocDCheck_callees : Value} {odDCheck_callees : Option Addr} {slDCheck_callees : Array (Option Value)} {kVDCheck_callees dcDCheck_callees pmDCheck_callees : Value} {anDCheck_callees : Option Addr} {cdDCheck_callees ctDCheck_callees : Value}
    {ocDPlaces : Value} {odDPlaces : Option Addr} {slDPlaces : Array (Option Value)} {kVDPlaces dcDPlaces pmDPlaces : Value} {anDPlaces : Option Addr} {cdDPlaces ctDPlaces : Value}
    {ocDCheck_procedure : Value} {odDCheck_procedure : Option Addr} {slDCheck_procedure : Array (Option Value)} {kVDCheck_procedure dcDCheck_procedure pmDCheck_procedure : Value} {anDCheck_procedure : Option Addr} {cdDCheck_procedure ctDCheck_procedure : Value}
    {ocDChecked_procedures : Value} {odDChecked_procedures : Option Addr} {slDChecked_procedures : Array (Option Value)} {kVDChecked_procedures dcDChecked_procedures pmDChecked_procedures : Value} {anDChecked_procedures : Option Addr} {cdDChecked_procedures ctDChecked_procedures : Value}
    {ocDSource : Value} {odDSource : Option Addr} {slDSource : Array (Option Value)} {kVDSource dcDSource pmDSource : Value} {anDSource : Option Addr} {cdDSource ctDSource : Value}
    {ocDDraw : Value} {odDDraw : Option Addr} {slDDraw : Array (Option Value)} {kVDDraw dcDDraw pmDDraw : Value} {anDDraw : Option Addr} {cdDDraw ctDDraw : Value}
    {ocDName : Value} {odDName : Option Addr} {slDName : Array (Option Value)} {kVDName dcDName pmDName : Value} {anDName : Option Addr} {cdDName ctDName : Value}
    {ocDNames : Value} {odDNames : Option Addr} {slDNames : Array (Option Value)} {kVDNames dcDNames pmDNames : Value} {anDNames : Option Addr} {cdDNames ctDNames : Value}
    {ocDStep : Value} {odDStep : Option Addr} {slDStep : Array (Option Value)} {kVDStep dcDStep pmDStep : Value} {anDStep : Option Addr} {cdDStep ctDStep : Value}
    {ocDProgram : Value} {odDProgram : Option Addr} {slDProgram : Array (Option Value)} {kVDProgram dcDProgram pmDProgram : Value} {anDProgram : Option Addr} {cdDProgram ctDProgram : Value}
    {ocDCopy : Value} {odDCopy : Option Addr} {slDCopy : Array (Option Value)} {kVDCopy dcDCopy pmDCopy : Value} {anDCopy : Option Addr} {cdDCopy ctDCopy : Value}
    {ocDBody : Value} {odDBody : Option Addr} {slDBody : Array (Option Value)} {kVDBody dcDBody pmDBody : Value} {anDBody : Option Addr} {cdDBody ctDBody : Value}
    {ocDSubset : Value} {odDSubset : Option Addr} {slDSubset : Array (Option Value)} {kVDSubset dcDSubset pmDSubset : Value} {anDSubset : Option Addr} {cdDSubset ctDSubset : Value}
    {ocDSpread : Value} {odDSpread : Option Addr} {slDSpread : Array (Option Value)} {kVDSpread dcDSpread pmDSpread : Value} {anDSpread : Option Addr} {cdDSpread ctDSpread : Value}
    {ocDWithout : Value} {odDWithout : Option Addr} {slDWithout : Array (Option Value)} {kVDWithout dcDWithout pmDWithout : Value} {anDWithout : Option Addr} {cdDWithout ctDWithout : Value}
    {ocDLaw : Value} {odDLaw : Option Addr} {slDLaw : Array (Option Value)} {kVDLaw dcDLaw pmDLaw : Value} {anDLaw : Option Addr} {cdDLaw ctDLaw : Value}
    {ocPTrace : Value} {odPTrace : Option Addr} {slPTrace : Array (Option Value)} {dcPTrace pmPTrace : Value} {anPTrace : Option Addr} {cdPTrace cuPTrace : Value}
    {o2PTrace0 : Obj} {n2PTrace0 : Nat}
    {tkLONGEST_NAME : Tok}
    {tkMOST_STEPS : Tok}
    {tkMOST_PROCEDURES : Tok}
    {oKINDS : Obj} {itsKINDS : List Value} {nKINDS : Nat} {uKINDS0 uKINDS1 uKINDS2 uKINDS3 : Tok}
    {oCALLING_KINDS : Obj} {itsCALLING_KINDS : List Value} {nCALLING_KINDS : Nat} {uCALLING_KINDS0 uCALLING_KINDS1 : Tok}
    (aCCn : PySem.W.nsIn K mainGlobals "NameSet" = some (some (.ref Cn)))
    (pgCn : PySem.W.plainGet K Cn Str.empty = true) (hdCn : PySem.W.hasDictIn K Cn = true) (poCn : PySem.W.plainOver K Cn = true) (saCn : PySem.W.findIn K (.ref Cn) "__setattr__" = some (some (.builtin "object.__setattr__"))) (mkCn : PySem.W.makesIn K Cn = true) (kcCn : PySem.W.keepIn K (.ref Cn) = true)
    (haCn : PySem.W.findIn K (.ref Cn) "__class__" = some (some (.builtin "object.__class__"))) (hmCn : PySem.W.mroIn K Cn (.type "object") = some true) (ciCn : PySem.W.isClsIn K Cn = true) (ctCn : PySem.W.typeIn K (.ref Cn) = some (.type "type")) (kLCn : PySem.W.subIn K (.type "list") (.ref Cn) = some false) (kTCn : PySem.W.subIn K (.type "tuple") (.ref Cn) = some false)
    (neCn : PySem.W.findIn K (.ref Cn) "__ne__" = some (some (.builtin "object.__ne__"))) (sfCn : PySem.W.selfFirst K Cn = true)
    (nCnmembers : PySem.W.findIn K (.ref Cn) "members" = some none)
    (iaCn : PySem.W.findIn K (.ref Cn) "__init__" = some (some (.ref fICn))) (iiCn : PySem.W.isFn K (.ref fICn) = true) (ilCn : K.lookup fICn = some ⟨ocCn, odCn, .func (PySem.W.fnOf "__init__" "NameSet.__init__" (defArgs sNameSetInit) (defBody sNameSetInit) (defScope sNameSetInit) (.ref tDCn) kVCn dcCn pmCn anCn cdCn cuCn), slCn⟩) (icCn : PySem.W.codeIn K cdCn "NameSet.__init__" = true) (ikCn : PySem.W.keepIn K (.ref fICn) = true)
    (t1Cn : K.lookup tDCn = some o1Cn) (t2Cn : o1Cn.data = .seq itsCn.toArray n1Cn) (t3Cn : itsCn = [.ref t0Cn]) (t4Cn : K.lookup t0Cn = some o2Cn) (t5Cn : o2Cn.data = .seq ([] : List Value).toArray n2Cn) (t6Cn : o2Cn.cls = .type "tuple")
    (aCneq : PySem.W.findIn K (.ref Cn) "__eq__" = some (some (.ref fCneq))) (lCneq : K.lookup fCneq = some ⟨ocCneq, odCneq, .func (PySem.W.fnOf "__eq__" "NameSet.__eq__" (defArgs sNameSetEq) (defBody sNameSetEq) (defScope sNameSetEq) .none kVCneq dcCneq pmCneq anCneq cdCneq ctCneq), slCneq⟩) (cCneq : PySem.W.codeIn K cdCneq "NameSet.__eq__" = true) (kCneq : PySem.W.keepIn K (.ref fCneq) = true) (iCneq : PySem.W.isFn K (.ref fCneq) = true) (nCneq : PySem.W.fnIn K fCneq = true)
    (aCnle : PySem.W.findIn K (.ref Cn) "__le__" = some (some (.ref fCnle))) (lCnle : K.lookup fCnle = some ⟨ocCnle, odCnle, .func (PySem.W.fnOf "__le__" "NameSet.__le__" (defArgs sNameSetLe) (defBody sNameSetLe) (defScope sNameSetLe) .none kVCnle dcCnle pmCnle anCnle cdCnle ctCnle), slCnle⟩) (cCnle : PySem.W.codeIn K cdCnle "NameSet.__le__" = true) (kCnle : PySem.W.keepIn K (.ref fCnle) = true) (iCnle : PySem.W.isFn K (.ref fCnle) = true) (nCnle : PySem.W.fnIn K fCnle = true)
    (aCnor : PySem.W.findIn K (.ref Cn) "__or__" = some (some (.ref fCnor))) (lCnor : K.lookup fCnor = some ⟨ocCnor, odCnor, .func (PySem.W.fnOf "__or__" "NameSet.__or__" (defArgs sNameSetOr) (defBody sNameSetOr) (defScope sNameSetOr) .none kVCnor dcCnor pmCnor anCnor cdCnor ctCnor), slCnor⟩) (cCnor : PySem.W.codeIn K cdCnor "NameSet.__or__" = true) (kCnor : PySem.W.keepIn K (.ref fCnor) = true) (iCnor : PySem.W.isFn K (.ref fCnor) = true) (nCnor : PySem.W.fnIn K fCnor = true)
    (aCncontains : PySem.W.findIn K (.ref Cn) "__contains__" = some (some (.ref fCncontains))) (lCncontains : K.lookup fCncontains = some ⟨ocCncontains, odCncontains, .func (PySem.W.fnOf "__contains__" "NameSet.__contains__" (defArgs sNameSetContains) (defBody sNameSetContains) (defScope sNameSetContains) .none kVCncontains dcCncontains pmCncontains anCncontains cdCncontains ctCncontains), slCncontains⟩) (cCncontains : PySem.W.codeIn K cdCncontains "NameSet.__contains__" = true) (kCncontains : PySem.W.keepIn K (.ref fCncontains) = true) (iCncontains : PySem.W.isFn K (.ref fCncontains) = true) (nCncontains : PySem.W.fnIn K fCncontains = true)
    (aCCp : PySem.W.nsIn K mainGlobals "Program" = some (some (.ref Cp)))
    (pgCp : PySem.W.plainGet K Cp Str.empty = true) (hdCp : PySem.W.hasDictIn K Cp = true) (poCp : PySem.W.plainOver K Cp = true) (saCp : PySem.W.findIn K (.ref Cp) "__setattr__" = some (some (.builtin "object.__setattr__"))) (mkCp : PySem.W.makesIn K Cp = true) (kcCp : PySem.W.keepIn K (.ref Cp) = true)
    (haCp : PySem.W.findIn K (.ref Cp) "__class__" = some (some (.builtin "object.__class__"))) (hmCp : PySem.W.mroIn K Cp (.type "object") = some true) (ciCp : PySem.W.isClsIn K Cp = true) (ctCp : PySem.W.typeIn K (.ref Cp) = some (.type "type")) (kLCp : PySem.W.subIn K (.type "list") (.ref Cp) = some false) (kTCp : PySem.W.subIn K (.type "tuple") (.ref Cp) = some false)
    (neCp : PySem.W.findIn K (.ref Cp) "__ne__" = some (some (.builtin "object.__ne__"))) (sfCp : PySem.W.selfFirst K Cp = true)
    (nCp_bodies : PySem.W.findIn K (.ref Cp) "_bodies" = some none)
    (nCpnames : PySem.W.findIn K (.ref Cp) "names" = some none)
    (nCpplaces : PySem.W.findIn K (.ref Cp) "places" = some none)
    (aICp : PySem.W.findIn K (.ref Cp) "__init__" = some (some (.ref fICp))) (lICp : K.lookup fICp = some ⟨ocICp, odICp, .func (PySem.W.fnOf "__init__" "Program.__init__" (defArgs sProgramInit) (defBody sProgramInit) (defScope sProgramInit) .none kVICp dcICp pmICp anICp cdICp ctICp), slICp⟩) (cICp : PySem.W.codeIn K cdICp "Program.__init__" = true) (kICp : PySem.W.keepIn K (.ref fICp) = true) (iICp : PySem.W.isFn K (.ref fICp) = true) (nICp : PySem.W.fnIn K fICp = true)
    (aCpeq : PySem.W.findIn K (.ref Cp) "__eq__" = some (some (.ref fCpeq))) (lCpeq : K.lookup fCpeq = some ⟨ocCpeq, odCpeq, .func (PySem.W.fnOf "__eq__" "Program.__eq__" (defArgs sProgramEq) (defBody sProgramEq) (defScope sProgramEq) .none kVCpeq dcCpeq pmCpeq anCpeq cdCpeq ctCpeq), slCpeq⟩) (cCpeq : PySem.W.codeIn K cdCpeq "Program.__eq__" = true) (kCpeq : PySem.W.keepIn K (.ref fCpeq) = true) (iCpeq : PySem.W.isFn K (.ref fCpeq) = true) (nCpeq : PySem.W.fnIn K fCpeq = true)
    (aCpgetitem : PySem.W.findIn K (.ref Cp) "__getitem__" = some (some (.ref fCpgetitem))) (lCpgetitem : K.lookup fCpgetitem = some ⟨ocCpgetitem, odCpgetitem, .func (PySem.W.fnOf "__getitem__" "Program.__getitem__" (defArgs sProgramGetitem) (defBody sProgramGetitem) (defScope sProgramGetitem) .none kVCpgetitem dcCpgetitem pmCpgetitem anCpgetitem cdCpgetitem ctCpgetitem), slCpgetitem⟩) (cCpgetitem : PySem.W.codeIn K cdCpgetitem "Program.__getitem__" = true) (kCpgetitem : PySem.W.keepIn K (.ref fCpgetitem) = true) (iCpgetitem : PySem.W.isFn K (.ref fCpgetitem) = true) (nCpgetitem : PySem.W.fnIn K fCpgetitem = true)
    (aCpcontains : PySem.W.findIn K (.ref Cp) "__contains__" = some (some (.ref fCpcontains))) (lCpcontains : K.lookup fCpcontains = some ⟨ocCpcontains, odCpcontains, .func (PySem.W.fnOf "__contains__" "Program.__contains__" (defArgs sProgramContains) (defBody sProgramContains) (defScope sProgramContains) .none kVCpcontains dcCpcontains pmCpcontains anCpcontains cdCpcontains ctCpcontains), slCpcontains⟩) (cCpcontains : PySem.W.codeIn K cdCpcontains "Program.__contains__" = true) (kCpcontains : PySem.W.keepIn K (.ref fCpcontains) = true) (iCpcontains : PySem.W.isFn K (.ref fCpcontains) = true) (nCpcontains : PySem.W.fnIn K fCpcontains = true)
    (aCplen : PySem.W.findIn K (.ref Cp) "__len__" = some (some (.ref fCplen))) (lCplen : K.lookup fCplen = some ⟨ocCplen, odCplen, .func (PySem.W.fnOf "__len__" "Program.__len__" (defArgs sProgramLen) (defBody sProgramLen) (defScope sProgramLen) .none kVCplen dcCplen pmCplen anCplen cdCplen ctCplen), slCplen⟩) (cCplen : PySem.W.codeIn K cdCplen "Program.__len__" = true) (kCplen : PySem.W.keepIn K (.ref fCplen) = true) (iCplen : PySem.W.isFn K (.ref fCplen) = true) (nCplen : PySem.W.fnIn K fCplen = true)
    (aCCf : PySem.W.nsIn K mainGlobals "FreshRun" = some (some (.ref Cf)))
    (pgCf : PySem.W.plainGet K Cf Str.empty = true) (hdCf : PySem.W.hasDictIn K Cf = true) (poCf : PySem.W.plainOver K Cf = true) (saCf : PySem.W.findIn K (.ref Cf) "__setattr__" = some (some (.builtin "object.__setattr__"))) (mkCf : PySem.W.makesIn K Cf = true) (kcCf : PySem.W.keepIn K (.ref Cf) = true)
    (haCf : PySem.W.findIn K (.ref Cf) "__class__" = some (some (.builtin "object.__class__"))) (hmCf : PySem.W.mroIn K Cf (.type "object") = some true) (ciCf : PySem.W.isClsIn K Cf = true) (ctCf : PySem.W.typeIn K (.ref Cf) = some (.type "type")) (kLCf : PySem.W.subIn K (.type "list") (.ref Cf) = some false) (kTCf : PySem.W.subIn K (.type "tuple") (.ref Cf) = some false)
    (neCf : PySem.W.findIn K (.ref Cf) "__ne__" = some (some (.builtin "object.__ne__"))) (sfCf : PySem.W.selfFirst K Cf = true)
    (nCfprogram : PySem.W.findIn K (.ref Cf) "program" = some none)
    (nCfevents : PySem.W.findIn K (.ref Cf) "events" = some none)
    (nCfknown : PySem.W.findIn K (.ref Cf) "known" = some none)
    (aICf : PySem.W.findIn K (.ref Cf) "__init__" = some (some (.ref fICf))) (lICf : K.lookup fICf = some ⟨ocICf, odICf, .func (PySem.W.fnOf "__init__" "FreshRun.__init__" (defArgs sFreshRunInit) (defBody sFreshRunInit) (defScope sFreshRunInit) .none kVICf dcICf pmICf anICf cdICf ctICf), slICf⟩) (cICf : PySem.W.codeIn K cdICf "FreshRun.__init__" = true) (kICf : PySem.W.keepIn K (.ref fICf) = true) (iICf : PySem.W.isFn K (.ref fICf) = true) (nICf : PySem.W.fnIn K fICf = true)
    (aCfask : PySem.W.findIn K (.ref Cf) "ask" = some (some (.ref fCfask))) (lCfask : K.lookup fCfask = some ⟨ocCfask, odCfask, .func (PySem.W.fnOf "ask" "FreshRun.ask" (defArgs sFreshRunAsk) (defBody sFreshRunAsk) (defScope sFreshRunAsk) .none kVCfask dcCfask pmCfask anCfask cdCfask ctCfask), slCfask⟩) (cCfask : PySem.W.codeIn K cdCfask "FreshRun.ask" = true) (kCfask : PySem.W.keepIn K (.ref fCfask) = true) (iCfask : PySem.W.isFn K (.ref fCfask) = true) (nCfask : PySem.W.fnIn K fCfask = true)
    (aCfstep : PySem.W.findIn K (.ref Cf) "step" = some (some (.ref fCfstep))) (lCfstep : K.lookup fCfstep = some ⟨ocCfstep, odCfstep, .func (PySem.W.fnOf "step" "FreshRun.step" (defArgs sFreshRunStep) (defBody sFreshRunStep) (defScope sFreshRunStep) .none kVCfstep dcCfstep pmCfstep anCfstep cdCfstep ctCfstep), slCfstep⟩) (cCfstep : PySem.W.codeIn K cdCfstep "FreshRun.step" = true) (kCfstep : PySem.W.keepIn K (.ref fCfstep) = true) (iCfstep : PySem.W.isFn K (.ref fCfstep) = true) (nCfstep : PySem.W.fnIn K fCfstep = true)
    (hn : PySem.W.specialIn K (.builtin "object.__class__") "__get__" = some (some (.builtin "getset_descriptor.__get__"))) (htk : PySem.W.takesIn K (.builtin "object.__class__") = some true)
    (aDIs_name : PySem.W.nsIn K mainGlobals "is_name" = some (some (.ref fDIs_name))) (lDIs_name : K.lookup fDIs_name = some ⟨ocDIs_name, odDIs_name, .func (PySem.W.fnOf "is_name" "is_name" (defArgs sIs_name) (defBody sIs_name) (defScope sIs_name) .none kVDIs_name dcDIs_name pmDIs_name anDIs_name cdDIs_name ctDIs_name), slDIs_name⟩) (cDIs_name : PySem.W.codeIn K cdDIs_name "is_name" = true) (kDIs_name : PySem.W.keepIn K (.ref fDIs_name) = true)
    (aDIs_step : PySem.W.nsIn K mainGlobals "_is_step" = some (some (.ref fDIs_step))) (lDIs_step : K.lookup fDIs_step = some ⟨ocDIs_step, odDIs_step, .func (PySem.W.fnOf "_is_step" "_is_step" (defArgs sIs_step) (defBody sIs_step) (defScope sIs_step) .none kVDIs_step dcDIs_step pmDIs_step anDIs_step cdDIs_step ctDIs_step), slDIs_step⟩) (cDIs_step : PySem.W.codeIn K cdDIs_step "_is_step" = true) (kDIs_step : PySem.W.keepIn K (.ref fDIs_step) = true)
    (aDIs_body : PySem.W.nsIn K mainGlobals "_is_body" = some (some (.ref fDIs_body))) (lDIs_body : K.lookup fDIs_body = some ⟨ocDIs_body, odDIs_body, .func (PySem.W.fnOf "_is_body" "_is_body" (defArgs sIs_body) (defBody sIs_body) (defScope sIs_body) .none kVDIs_body dcDIs_body pmDIs_body anDIs_body cdDIs_body ctDIs_body), slDIs_body⟩) (cDIs_body : PySem.W.codeIn K cdDIs_body "_is_body" = true) (kDIs_body : PySem.W.keepIn K (.ref fDIs_body) = true)
    (aDChecked_bodies : PySem.W.nsIn K mainGlobals "_checked_bodies" = some (some (.ref fDChecked_bodies))) (lDChecked_bodies : K.lookup fDChecked_bodies = some ⟨ocDChecked_bodies, odDChecked_bodies, .func (PySem.W.fnOf "_checked_bodies" "_checked_bodies" (defArgs sChecked_bodies) (defBody sChecked_bodies) (defScope sChecked_bodies) .none kVDChecked_bodies dcDChecked_bodies pmDChecked_bodies anDChecked_bodies cdDChecked_bodies ctDChecked_bodies), slDChecked_bodies⟩) (cDChecked_bodies : PySem.W.codeIn K cdDChecked_bodies "_checked_bodies" = true) (kDChecked_bodies : PySem.W.keepIn K (.ref fDChecked_bodies) = true)
    (aDCheck_callees : PySem.W.nsIn K mainGlobals "_check_callees" = some (some (.ref fDCheck_callees))) (lDCheck_callees : K.lookup fDCheck_callees = some ⟨ocDCheck_callees, odDCheck_callees, .func (PySem.W.fnOf "_check_callees" "_check_callees" (defArgs sCheck_callees) (defBody sCheck_callees) (defScope sCheck_callees) .none kVDCheck_callees dcDCheck_callees pmDCheck_callees anDCheck_callees cdDCheck_callees ctDCheck_callees), slDCheck_callees⟩) (cDCheck_callees : PySem.W.codeIn K cdDCheck_callees "_check_callees" = true) (kDCheck_callees : PySem.W.keepIn K (.ref fDCheck_callees) = true)
    (aDPlaces : PySem.W.nsIn K mainGlobals "_places" = some (some (.ref fDPlaces))) (lDPlaces : K.lookup fDPlaces = some ⟨ocDPlaces, odDPlaces, .func (PySem.W.fnOf "_places" "_places" (defArgs sPlaces) (defBody sPlaces) (defScope sPlaces) .none kVDPlaces dcDPlaces pmDPlaces anDPlaces cdDPlaces ctDPlaces), slDPlaces⟩) (cDPlaces : PySem.W.codeIn K cdDPlaces "_places" = true) (kDPlaces : PySem.W.keepIn K (.ref fDPlaces) = true)
    (aDCheck_procedure : PySem.W.nsIn K mainGlobals "check_procedure" = some (some (.ref fDCheck_procedure))) (lDCheck_procedure : K.lookup fDCheck_procedure = some ⟨ocDCheck_procedure, odDCheck_procedure, .func (PySem.W.fnOf "check_procedure" "check_procedure" (defArgs sCheck_procedure) (defBody sCheck_procedure) (defScope sCheck_procedure) .none kVDCheck_procedure dcDCheck_procedure pmDCheck_procedure anDCheck_procedure cdDCheck_procedure ctDCheck_procedure), slDCheck_procedure⟩) (cDCheck_procedure : PySem.W.codeIn K cdDCheck_procedure "check_procedure" = true) (kDCheck_procedure : PySem.W.keepIn K (.ref fDCheck_procedure) = true)
    (aDChecked_procedures : PySem.W.nsIn K mainGlobals "checked_procedures" = some (some (.ref fDChecked_procedures))) (lDChecked_procedures : K.lookup fDChecked_procedures = some ⟨ocDChecked_procedures, odDChecked_procedures, .func (PySem.W.fnOf "checked_procedures" "checked_procedures" (defArgs sChecked_procedures) (defBody sChecked_procedures) (defScope sChecked_procedures) .none kVDChecked_procedures dcDChecked_procedures pmDChecked_procedures anDChecked_procedures cdDChecked_procedures ctDChecked_procedures), slDChecked_procedures⟩) (cDChecked_procedures : PySem.W.codeIn K cdDChecked_procedures "checked_procedures" = true) (kDChecked_procedures : PySem.W.keepIn K (.ref fDChecked_procedures) = true)
    (aDSource : PySem.W.nsIn K mainGlobals "_law_source" = some (some (.ref fDSource))) (lDSource : K.lookup fDSource = some ⟨ocDSource, odDSource, .func (PySem.W.fnOf "_law_source" "_law_source" (defArgs sSource) (defBody sSource) (defScope sSource) .none kVDSource dcDSource pmDSource anDSource cdDSource ctDSource), slDSource⟩) (cDSource : PySem.W.codeIn K cdDSource "_law_source" = true) (kDSource : PySem.W.keepIn K (.ref fDSource) = true)
    (aDDraw : PySem.W.nsIn K mainGlobals "_law_draw" = some (some (.ref fDDraw))) (lDDraw : K.lookup fDDraw = some ⟨ocDDraw, odDDraw, .func (PySem.W.fnOf "_law_draw" "_law_draw" (defArgs sDraw) (defBody sDraw) (defScope sDraw) .none kVDDraw dcDDraw pmDDraw anDDraw cdDDraw ctDDraw), slDDraw⟩) (cDDraw : PySem.W.codeIn K cdDDraw "_law_draw" = true) (kDDraw : PySem.W.keepIn K (.ref fDDraw) = true)
    (aDName : PySem.W.nsIn K mainGlobals "_law_name" = some (some (.ref fDName))) (lDName : K.lookup fDName = some ⟨ocDName, odDName, .func (PySem.W.fnOf "_law_name" "_law_name" (defArgs sName) (defBody sName) (defScope sName) .none kVDName dcDName pmDName anDName cdDName ctDName), slDName⟩) (cDName : PySem.W.codeIn K cdDName "_law_name" = true) (kDName : PySem.W.keepIn K (.ref fDName) = true)
    (aDNames : PySem.W.nsIn K mainGlobals "_law_names" = some (some (.ref fDNames))) (lDNames : K.lookup fDNames = some ⟨ocDNames, odDNames, .func (PySem.W.fnOf "_law_names" "_law_names" (defArgs sNames) (defBody sNames) (defScope sNames) .none kVDNames dcDNames pmDNames anDNames cdDNames ctDNames), slDNames⟩) (cDNames : PySem.W.codeIn K cdDNames "_law_names" = true) (kDNames : PySem.W.keepIn K (.ref fDNames) = true)
    (aDStep : PySem.W.nsIn K mainGlobals "_law_step" = some (some (.ref fDStep))) (lDStep : K.lookup fDStep = some ⟨ocDStep, odDStep, .func (PySem.W.fnOf "_law_step" "_law_step" (defArgs sStep) (defBody sStep) (defScope sStep) .none kVDStep dcDStep pmDStep anDStep cdDStep ctDStep), slDStep⟩) (cDStep : PySem.W.codeIn K cdDStep "_law_step" = true) (kDStep : PySem.W.keepIn K (.ref fDStep) = true)
    (aDProgram : PySem.W.nsIn K mainGlobals "_law_program" = some (some (.ref fDProgram))) (lDProgram : K.lookup fDProgram = some ⟨ocDProgram, odDProgram, .func (PySem.W.fnOf "_law_program" "_law_program" (defArgs sProgram) (defBody sProgram) (defScope sProgram) .none kVDProgram dcDProgram pmDProgram anDProgram cdDProgram ctDProgram), slDProgram⟩) (cDProgram : PySem.W.codeIn K cdDProgram "_law_program" = true) (kDProgram : PySem.W.keepIn K (.ref fDProgram) = true)
    (aDCopy : PySem.W.nsIn K mainGlobals "_law_copy" = some (some (.ref fDCopy))) (lDCopy : K.lookup fDCopy = some ⟨ocDCopy, odDCopy, .func (PySem.W.fnOf "_law_copy" "_law_copy" (defArgs sCopy) (defBody sCopy) (defScope sCopy) .none kVDCopy dcDCopy pmDCopy anDCopy cdDCopy ctDCopy), slDCopy⟩) (cDCopy : PySem.W.codeIn K cdDCopy "_law_copy" = true) (kDCopy : PySem.W.keepIn K (.ref fDCopy) = true)
    (aDBody : PySem.W.nsIn K mainGlobals "_law_body" = some (some (.ref fDBody))) (lDBody : K.lookup fDBody = some ⟨ocDBody, odDBody, .func (PySem.W.fnOf "_law_body" "_law_body" (defArgs sBody) (defBody sBody) (defScope sBody) .none kVDBody dcDBody pmDBody anDBody cdDBody ctDBody), slDBody⟩) (cDBody : PySem.W.codeIn K cdDBody "_law_body" = true) (kDBody : PySem.W.keepIn K (.ref fDBody) = true)
    (aDSubset : PySem.W.nsIn K mainGlobals "_law_subset" = some (some (.ref fDSubset))) (lDSubset : K.lookup fDSubset = some ⟨ocDSubset, odDSubset, .func (PySem.W.fnOf "_law_subset" "_law_subset" (defArgs sSubset) (defBody sSubset) (defScope sSubset) .none kVDSubset dcDSubset pmDSubset anDSubset cdDSubset ctDSubset), slDSubset⟩) (cDSubset : PySem.W.codeIn K cdDSubset "_law_subset" = true) (kDSubset : PySem.W.keepIn K (.ref fDSubset) = true)
    (aDSpread : PySem.W.nsIn K mainGlobals "_law_spread" = some (some (.ref fDSpread))) (lDSpread : K.lookup fDSpread = some ⟨ocDSpread, odDSpread, .func (PySem.W.fnOf "_law_spread" "_law_spread" (defArgs sSpread) (defBody sSpread) (defScope sSpread) .none kVDSpread dcDSpread pmDSpread anDSpread cdDSpread ctDSpread), slDSpread⟩) (cDSpread : PySem.W.codeIn K cdDSpread "_law_spread" = true) (kDSpread : PySem.W.keepIn K (.ref fDSpread) = true)
    (aDWithout : PySem.W.nsIn K mainGlobals "_law_without" = some (some (.ref fDWithout))) (lDWithout : K.lookup fDWithout = some ⟨ocDWithout, odDWithout, .func (PySem.W.fnOf "_law_without" "_law_without" (defArgs sWithout) (defBody sWithout) (defScope sWithout) .none kVDWithout dcDWithout pmDWithout anDWithout cdDWithout ctDWithout), slDWithout⟩) (cDWithout : PySem.W.codeIn K cdDWithout "_law_without" = true) (kDWithout : PySem.W.keepIn K (.ref fDWithout) = true)
    (aDLaw : PySem.W.nsIn K mainGlobals "law" = some (some (.ref fDLaw))) (lDLaw : K.lookup fDLaw = some ⟨ocDLaw, odDLaw, .func (PySem.W.fnOf "law" "law" (defArgs sLaw) (defBody sLaw) (defScope sLaw) .none kVDLaw dcDLaw pmDLaw anDLaw cdDLaw ctDLaw), slDLaw⟩) (cDLaw : PySem.W.codeIn K cdDLaw "law" = true) (kDLaw : PySem.W.keepIn K (.ref fDLaw) = true)
    (iaPTrace : PySem.W.nsIn K mainGlobals "trace" = some (some (.ref fPTrace))) (ilPTrace : K.lookup fPTrace = some ⟨ocPTrace, odPTrace, .func (PySem.W.fnOf "trace" "trace" (defArgs sTrace) (defBody sTrace) (defScope sTrace) .none (.ref kDPTrace) dcPTrace pmPTrace anPTrace cdPTrace cuPTrace), slPTrace⟩) (icPTrace : PySem.W.codeIn K cdPTrace "trace" = true) (ikPTrace : PySem.W.keepIn K (.ref fPTrace) = true)
    (t3PTrace0 : PySem.W.nsIn K kDPTrace "cached" = some (some (.ref t0PTrace0))) (t4PTrace0 : K.lookup t0PTrace0 = some o2PTrace0) (t5PTrace0 : o2PTrace0.data = .seq ([] : List Value).toArray n2PTrace0) (t6PTrace0 : o2PTrace0.cls = .type "tuple")
    (aLONGEST_NAME : PySem.W.nsIn K mainGlobals "LONGEST_NAME" = some (some (.int 8 tkLONGEST_NAME)))
    (aMOST_STEPS : PySem.W.nsIn K mainGlobals "MOST_STEPS" = some (some (.int 12 tkMOST_STEPS)))
    (aMOST_PROCEDURES : PySem.W.nsIn K mainGlobals "MOST_PROCEDURES" = some (some (.int 16 tkMOST_PROCEDURES)))
    (aKINDS : PySem.W.nsIn K mainGlobals "KINDS" = some (some (.ref xKINDS))) (lKINDS : K.lookup xKINDS = some oKINDS) (dKINDS : oKINDS.data = .seq itsKINDS.toArray nKINDS) (iKINDS : itsKINDS = [.str "read" uKINDS0, .str "say" uKINDS1, .str "call" uKINDS2, .str "try" uKINDS3]) (cKINDS : oKINDS.cls = .type "tuple")
    (aCALLING_KINDS : PySem.W.nsIn K mainGlobals "CALLING_KINDS" = some (some (.ref xCALLING_KINDS))) (lCALLING_KINDS : K.lookup xCALLING_KINDS = some oCALLING_KINDS) (dCALLING_KINDS : oCALLING_KINDS.data = .seq itsCALLING_KINDS.toArray nCALLING_KINDS) (iCALLING_KINDS : itsCALLING_KINDS = [.str "call" uCALLING_KINDS0, .str "try" uCALLING_KINDS1]) (cCALLING_KINDS : oCALLING_KINDS.cls = .type "tuple")
    (zint : PySem.W.nsIn K mainGlobals "int" = some none)
    (zenumerate : PySem.W.nsIn K mainGlobals "enumerate" = some none)
    (zrange : PySem.W.nsIn K mainGlobals "range" = some none)
    (zlist : PySem.W.nsIn K mainGlobals "list" = some none)
    (ztuple : PySem.W.nsIn K mainGlobals "tuple" = some none)
    (zsorted : PySem.W.nsIn K mainGlobals "sorted" = some none)
    (zstr : PySem.W.nsIn K mainGlobals "str" = some none)
    (zall : PySem.W.nsIn K mainGlobals "all" = some none)
    (zisinstance : PySem.W.nsIn K mainGlobals "isinstance" = some none)
    (zbool : PySem.W.nsIn K mainGlobals "bool" = some none)
    (zlen : PySem.W.nsIn K mainGlobals "len" = some none)
    (zset : PySem.W.nsIn K mainGlobals "set" = some none)
    (zany : PySem.W.nsIn K mainGlobals "any" = some none) :
    ∃ fd : FuncData, (∀ (s : Shared) (v : Value), BindsTo s fd ⟨[v], []⟩ [("_law_script", v)]) ∧ ∀ base : Heap, K.In base → base.Ns mainGlobals mg → FnOk l.prog w K mg base CX0 41 fa fd ["_law_script"] (spLaw K) := by
  have mCneq : MetF K Cn "__eq__" "NameSet.__eq__" sNameSetEq fCneq := ⟨⟨_, _, _, _, _, _, _, _, _, aCneq, lCneq, cCneq, kCneq, iCneq, nCneq⟩⟩
  have mCnle : MetF K Cn "__le__" "NameSet.__le__" sNameSetLe fCnle := ⟨⟨_, _, _, _, _, _, _, _, _, aCnle, lCnle, cCnle, kCnle, iCnle, nCnle⟩⟩
  have mCnor : MetF K Cn "__or__" "NameSet.__or__" sNameSetOr fCnor := ⟨⟨_, _, _, _, _, _, _, _, _, aCnor, lCnor, cCnor, kCnor, iCnor, nCnor⟩⟩
  have mCncontains : MetF K Cn "__contains__" "NameSet.__contains__" sNameSetContains fCncontains := ⟨⟨_, _, _, _, _, _, _, _, _, aCncontains, lCncontains, cCncontains, kCncontains, iCncontains, nCncontains⟩⟩
  have mICp : MetF K Cp "__init__" "Program.__init__" sProgramInit fICp := ⟨⟨_, _, _, _, _, _, _, _, _, aICp, lICp, cICp, kICp, iICp, nICp⟩⟩
  have mCpeq : MetF K Cp "__eq__" "Program.__eq__" sProgramEq fCpeq := ⟨⟨_, _, _, _, _, _, _, _, _, aCpeq, lCpeq, cCpeq, kCpeq, iCpeq, nCpeq⟩⟩
  have mCpgetitem : MetF K Cp "__getitem__" "Program.__getitem__" sProgramGetitem fCpgetitem := ⟨⟨_, _, _, _, _, _, _, _, _, aCpgetitem, lCpgetitem, cCpgetitem, kCpgetitem, iCpgetitem, nCpgetitem⟩⟩
  have mCpcontains : MetF K Cp "__contains__" "Program.__contains__" sProgramContains fCpcontains := ⟨⟨_, _, _, _, _, _, _, _, _, aCpcontains, lCpcontains, cCpcontains, kCpcontains, iCpcontains, nCpcontains⟩⟩
  have mCplen : MetF K Cp "__len__" "Program.__len__" sProgramLen fCplen := ⟨⟨_, _, _, _, _, _, _, _, _, aCplen, lCplen, cCplen, kCplen, iCplen, nCplen⟩⟩
  have mICf : MetF K Cf "__init__" "FreshRun.__init__" sFreshRunInit fICf := ⟨⟨_, _, _, _, _, _, _, _, _, aICf, lICf, cICf, kICf, iICf, nICf⟩⟩
  have mCfask : MetF K Cf "ask" "FreshRun.ask" sFreshRunAsk fCfask := ⟨⟨_, _, _, _, _, _, _, _, _, aCfask, lCfask, cCfask, kCfask, iCfask, nCfask⟩⟩
  have mCfstep : MetF K Cf "step" "FreshRun.step" sFreshRunStep fCfstep := ⟨⟨_, _, _, _, _, _, _, _, _, aCfstep, lCfstep, cCfstep, kCfstep, iCfstep, nCfstep⟩⟩
  have dDIs_name : DefF K "is_name" sIs_name fDIs_name := ⟨⟨_, _, _, _, _, _, _, _, _, aDIs_name, lDIs_name, cDIs_name, kDIs_name⟩⟩
  have dDIs_step : DefF K "_is_step" sIs_step fDIs_step := ⟨⟨_, _, _, _, _, _, _, _, _, aDIs_step, lDIs_step, cDIs_step, kDIs_step⟩⟩
  have dDIs_body : DefF K "_is_body" sIs_body fDIs_body := ⟨⟨_, _, _, _, _, _, _, _, _, aDIs_body, lDIs_body, cDIs_body, kDIs_body⟩⟩
  have dDChecked_bodies : DefF K "_checked_bodies" sChecked_bodies fDChecked_bodies := ⟨⟨_, _, _, _, _, _, _, _, _, aDChecked_bodies, lDChecked_bodies, cDChecked_bodies, kDChecked_bodies⟩⟩
  have dDCheck_callees : DefF K "_check_callees" sCheck_callees fDCheck_callees := ⟨⟨_, _, _, _, _, _, _, _, _, aDCheck_callees, lDCheck_callees, cDCheck_callees, kDCheck_callees⟩⟩
  have dDPlaces : DefF K "_places" sPlaces fDPlaces := ⟨⟨_, _, _, _, _, _, _, _, _, aDPlaces, lDPlaces, cDPlaces, kDPlaces⟩⟩
  have dDCheck_procedure : DefF K "check_procedure" sCheck_procedure fDCheck_procedure := ⟨⟨_, _, _, _, _, _, _, _, _, aDCheck_procedure, lDCheck_procedure, cDCheck_procedure, kDCheck_procedure⟩⟩
  have dDChecked_procedures : DefF K "checked_procedures" sChecked_procedures fDChecked_procedures := ⟨⟨_, _, _, _, _, _, _, _, _, aDChecked_procedures, lDChecked_procedures, cDChecked_procedures, kDChecked_procedures⟩⟩
  have dDSource : DefF K "_law_source" sSource fDSource := ⟨⟨_, _, _, _, _, _, _, _, _, aDSource, lDSource, cDSource, kDSource⟩⟩
  have dDDraw : DefF K "_law_draw" sDraw fDDraw := ⟨⟨_, _, _, _, _, _, _, _, _, aDDraw, lDDraw, cDDraw, kDDraw⟩⟩
  have dDName : DefF K "_law_name" sName fDName := ⟨⟨_, _, _, _, _, _, _, _, _, aDName, lDName, cDName, kDName⟩⟩
  have dDNames : DefF K "_law_names" sNames fDNames := ⟨⟨_, _, _, _, _, _, _, _, _, aDNames, lDNames, cDNames, kDNames⟩⟩
  have dDStep : DefF K "_law_step" sStep fDStep := ⟨⟨_, _, _, _, _, _, _, _, _, aDStep, lDStep, cDStep, kDStep⟩⟩
  have dDProgram : DefF K "_law_program" sProgram fDProgram := ⟨⟨_, _, _, _, _, _, _, _, _, aDProgram, lDProgram, cDProgram, kDProgram⟩⟩
  have dDCopy : DefF K "_law_copy" sCopy fDCopy := ⟨⟨_, _, _, _, _, _, _, _, _, aDCopy, lDCopy, cDCopy, kDCopy⟩⟩
  have dDBody : DefF K "_law_body" sBody fDBody := ⟨⟨_, _, _, _, _, _, _, _, _, aDBody, lDBody, cDBody, kDBody⟩⟩
  have dDSubset : DefF K "_law_subset" sSubset fDSubset := ⟨⟨_, _, _, _, _, _, _, _, _, aDSubset, lDSubset, cDSubset, kDSubset⟩⟩
  have dDSpread : DefF K "_law_spread" sSpread fDSpread := ⟨⟨_, _, _, _, _, _, _, _, _, aDSpread, lDSpread, cDSpread, kDSpread⟩⟩
  have dDWithout : DefF K "_law_without" sWithout fDWithout := ⟨⟨_, _, _, _, _, _, _, _, _, aDWithout, lDWithout, cDWithout, kDWithout⟩⟩
  have dDLaw : DefF K "law" sLaw fDLaw := ⟨⟨_, _, _, _, _, _, _, _, _, aDLaw, lDLaw, cDLaw, kDLaw⟩⟩
  have vLONGEST_NAME : mg "LONGEST_NAME" = some (.int 8 tkLONGEST_NAME) := PySem.W.mg_of X G aLONGEST_NAME
  have vMOST_STEPS : mg "MOST_STEPS" = some (.int 12 tkMOST_STEPS) := PySem.W.mg_of X G aMOST_STEPS
  have vMOST_PROCEDURES : mg "MOST_PROCEDURES" = some (.int 16 tkMOST_PROCEDURES) := PySem.W.mg_of X G aMOST_PROCEDURES
  have vKINDS : mg "KINDS" = some (.ref xKINDS) := PySem.W.mg_of X G aKINDS
  have qKINDS : ∀ H, SqT K H xKINDS ([("read" : Str), ("say" : Str), ("call" : Str), ("try" : Str)].map V.str) := fun H => .inr ⟨oKINDS, itsKINDS.toArray, nKINDS, lKINDS, cKINDS, dKINDS, by rw [iKINDS]; show 4 ≤ sizeLine; decide, by rw [iKINDS]; exact (.cons ⟨uKINDS0, rfl⟩ (.cons ⟨uKINDS1, rfl⟩ (.cons ⟨uKINDS2, rfl⟩ (.cons ⟨uKINDS3, rfl⟩ .nil))))⟩
  have vCALLING_KINDS : mg "CALLING_KINDS" = some (.ref xCALLING_KINDS) := PySem.W.mg_of X G aCALLING_KINDS
  have qCALLING_KINDS : ∀ H, SqT K H xCALLING_KINDS ([("call" : Str), ("try" : Str)].map V.str) := fun H => .inr ⟨oCALLING_KINDS, itsCALLING_KINDS.toArray, nCALLING_KINDS, lCALLING_KINDS, cCALLING_KINDS, dCALLING_KINDS, by rw [iCALLING_KINDS]; show 2 ≤ sizeLine; decide, by rw [iCALLING_KINDS]; exact (.cons ⟨uCALLING_KINDS0, rfl⟩ (.cons ⟨uCALLING_KINDS1, rfl⟩ .nil))⟩
  have vint : mg "int" = none := PySem.W.mg_none_of X G zint
  have venumerate : mg "enumerate" = none := PySem.W.mg_none_of X G zenumerate
  have vrange : mg "range" = none := PySem.W.mg_none_of X G zrange
  have vlist : mg "list" = none := PySem.W.mg_none_of X G zlist
  have vtuple : mg "tuple" = none := PySem.W.mg_none_of X G ztuple
  have vsorted : mg "sorted" = none := PySem.W.mg_none_of X G zsorted
  have vstr : mg "str" = none := PySem.W.mg_none_of X G zstr
  have vall : mg "all" = none := PySem.W.mg_none_of X G zall
  have visinstance : mg "isinstance" = none := PySem.W.mg_none_of X G zisinstance
  have vbool : mg "bool" = none := PySem.W.mg_none_of X G zbool
  have vlen : mg "len" = none := PySem.W.mg_none_of X G zlen
  have vset : mg "set" = none := PySem.W.mg_none_of X G zset
  have vany : mg "any" = none := PySem.W.mg_none_of X G zany
  have q0Cn : ∀ H, SqT K H t0Cn [] := fun H => .inr ⟨o2Cn, #[], n2Cn, t4Cn, t6Cn, t5Cn, Nat.zero_le _, .nil⟩
  subst t3Cn
  have insCn : C8.InsC K Cn := ⟨⟨pgCn, hdCn, poCn, saCn⟩, haCn, hn, htk, hmCn, kit_self⟩
  have TCn : NsC K mg Cn := ⟨insCn, nCnmembers, PySem.W.mg_of X G aCCn, kit_own ciCn ctCn kLCn, kit_own ciCn ctCn kTCn, notFirst_of kTCn, notFirst_of kLCn, visinstance, vtuple, vsorted, vset, vall, vlen⟩
  have insCp : C8.InsC K Cp := ⟨⟨pgCp, hdCp, poCp, saCp⟩, haCp, hn, htk, hmCp, kit_self⟩
  have TCp : PgC K mg Cp := ⟨insCp, nCp_bodies, nCpnames, nCpplaces, PySem.W.mg_of X G aCCp, kit_own ciCp ctCp kLCp, kit_own ciCp ctCp kTCp, notFirst_of kTCp, notFirst_of kLCp, visinstance, vtuple, vlen⟩
  have insCf : C8.InsC K Cf := ⟨⟨pgCf, hdCf, poCf, saCf⟩, haCf, hn, htk, hmCf, kit_self⟩
  have TCf : FrC K mg Cf := ⟨insCf, nCfprogram, nCfevents, nCfknown, PySem.W.mg_of X G aCCf⟩
  refine dDLaw.law X G hfa (fun _ _ _ _ _ _ s v => .of_eq rfl) fun base _ _ fd FL => ?_
  have c_is_name : Cal l.prog w K mg base CX0 1 "is_name" ["value"] spIsName := dDIs_name.cal X G (fun _ _ _ _ _ _ us hl => match us, hl with | [_], _ => rfl) fun fd F => ok_is_name F visinstance vstr vlen vall vLONGEST_NAME
  have c__is_step : Cal l.prog w K mg base CX0 2 "_is_step" ["step"] spIsStep := dDIs_step.cal X G (fun _ _ _ _ _ _ us hl => match us, hl with | [_], _ => rfl) fun fd F => ok_is_step F visinstance vtuple vlen vKINDS qKINDS c_is_name
  have c__is_body : Cal l.prog w K mg base CX0 3 "_is_body" ["steps"] (spIsBody K) := dDIs_body.cal X G (fun _ _ _ _ _ _ us hl => match us, hl with | [_], _ => rfl) fun fd F => ok_is_body F vlen vall vMOST_STEPS c__is_step
  have c__checked_bodies : Cal l.prog w K mg base CX0 4 "_checked_bodies" ["procedures"] (spChecked K) := dDChecked_bodies.cal X G (fun _ _ _ _ _ _ us hl => match us, hl with | [_], _ => rfl) fun fd F => ok_checked F venumerate vtuple vMOST_PROCEDURES c_is_name c__is_body
  have c__check_callees : Cal l.prog w K mg base CX0 1 "_check_callees" ["bodies"] (spCallees K) := dDCheck_callees.cal X G (fun _ _ _ _ _ _ us hl => match us, hl with | [_], _ => rfl) fun fd F => ok_callees F venumerate vCALLING_KINDS qCALLING_KINDS
  have FICn : FunD K "__init__" "NameSet.__init__" (defArgs sNameSetInit) (defBody sNameSetInit) (defScope sNameSetInit) [.ref t0Cn] [] fICn _ := ⟨⟨ocCn, odCn, .ref tDCn, kVCn, dcCn, pmCn, anCn, cdCn, cuCn, slCn, rfl, ilCn, icCn, .inr ⟨by simp, tDCn, o1Cn, _, n1Cn, rfl, t1Cn, t2Cn, .cons rfl .nil⟩, .inl rfl⟩, ikCn⟩
  have okICn : FnOk l.prog w K mg base CX0 1 fICn _ ["self", "names"] (spNsInit K Cn) := ok_nsInit FICn TCn
  obtain ⟨ds1Cn, r1Cn, b1Cn⟩ := FICn.binds1 (ps := ["self", "names"]) 2 1 (by simp) rfl fun _ _ _ _ _ _ _ us its hu hi => match us, its, hu, hi with | [_, _], [_], _, _ => ⟨_, rfl, rfl⟩
  obtain ⟨ds0Cn, r0Cn, b0Cn⟩ := FICn.binds1 (ps := ["self", "names"]) 1 0 (by simp) rfl fun _ _ _ _ _ _ _ us its hu hi => match us, its, hu, hi with | [_], [_], _, _ => ⟨_, rfl, rfl⟩
  have mk1Cn : CalC l.prog w K mg base CX0 1 "NameSet" Cn ["self", "names"] (spNsInit K Cn) [] := ⟨⟨fICn, _, ds1Cn, ⟨mkCn, iaCn, iiCn, kcCn⟩, okICn, PySem.W.mg_of X G aCCn, b1Cn, r1Cn⟩⟩
  have mk0Cn : CalC l.prog w K mg base CX0 1 "NameSet" Cn ["self", "names"] (spNsInit K Cn) [.ref t0Cn] := ⟨⟨fICn, _, ds0Cn, ⟨mkCn, iaCn, iiCn, kcCn⟩, okICn, PySem.W.mg_of X G aCCn, b0Cn, r0Cn⟩⟩
  have oCneq : CalM l.prog w K mg base CX0 1 Cn "__eq__" ["self", "other"] (spNsEq K Cn) := mCneq.cal (fun _ _ _ _ _ _ us hl => match us, hl with | [_, _], _ => rfl) fun fd F => ok_nsEq F TCn
  have oCnle : CalM l.prog w K mg base CX0 1 Cn "__le__" ["self", "other"] (spNsLe Cn) := mCnle.cal (fun _ _ _ _ _ _ us hl => match us, hl with | [_, _], _ => rfl) fun fd F => ok_nsLe F TCn
  have oCnor : CalM l.prog w K mg base CX0 3 Cn "__or__" ["self", "other"] (spNsOp Cn gOr) := mCnor.cal (fun _ _ _ _ _ _ us hl => match us, hl with | [_, _], _ => rfl) fun fd F => ok_nsOr F TCn mk1Cn
  have oCncontains : CalM l.prog w K mg base CX0 1 Cn "__contains__" ["self", "name"] (spNsIn Cn) := mCncontains.cal (fun _ _ _ _ _ _ us hl => match us, hl with | [_, _], _ => rfl) fun fd F => ok_nsIn F TCn
  have ON : NsO l.prog w K mg base Cn := ⟨oCneq, oCnle, oCnor, oCncontains, neCn, sfCn⟩
  have c__places : Cal l.prog w K mg base CX0 3 "_places" ["bodies"] (spPlaces K) := dDPlaces.cal X G (fun _ _ _ _ _ _ us hl => match us, hl with | [_], _ => rfl) fun fd F => ok_places F TCn mk1Cn
  have mk1Cp : CalC l.prog w K mg base CX0 5 "Program" Cp ["self", "procedures"] (spPgInit K Cp) [] := mICp.calC mkCp kcCp (PySem.W.mg_of X G aCCp) (fun _ _ _ _ _ _ us hl => match us, hl with | [_, _], _ => rfl) fun fd F => ok_pgInit F TCp c__checked_bodies c__check_callees c__places
  have oCpeq : CalM l.prog w K mg base CX0 2 Cp "__eq__" ["self", "other"] (spPgEq K Cp) := mCpeq.cal (fun _ _ _ _ _ _ us hl => match us, hl with | [_, _], _ => rfl) fun fd F => ok_pgEq F TCp
  have oCpgetitem : CalM l.prog w K mg base CX0 1 Cp "__getitem__" ["self", "name"] (spPgGet K Cp) := mCpgetitem.cal (fun _ _ _ _ _ _ us hl => match us, hl with | [_, _], _ => rfl) fun fd F => ok_pgGet F TCp
  have oCpcontains : CalM l.prog w K mg base CX0 1 Cp "__contains__" ["self", "name"] (spPgHas K Cp) := mCpcontains.cal (fun _ _ _ _ _ _ us hl => match us, hl with | [_, _], _ => rfl) fun fd F => ok_pgHas F TCp
  have oCplen : CalM l.prog w K mg base CX0 1 Cp "__len__" ["self"] (spPgLen K Cp) := mCplen.cal (fun _ _ _ _ _ _ us hl => match us, hl with | [_], _ => rfl) fun fd F => ok_pgLen F TCp
  have O : PgOps l.prog w K mg base Cp := ⟨oCpeq, oCpgetitem, oCpcontains, oCplen, neCp⟩
  have c_check_procedure : Cal l.prog w K mg base CX0 2 "check_procedure" ["program", "name"] (spCheck K Cp) := dDCheck_procedure.cal X G (fun _ _ _ _ _ _ us hl => match us, hl with | [_, _], _ => rfl) fun fd F => ok_check F O
  have c_checked_procedures : Cal l.prog w K mg base CX0 3 "checked_procedures" ["program", "names"] (spCheckeds K Cp Cn) := dDChecked_procedures.cal X G (fun _ _ _ _ _ _ us hl => match us, hl with | [_, _], _ => rfl) fun fd F => ok_checkeds F TCn mk1Cn c_check_procedure
  have mk1Cf : CalC l.prog w K mg base CX0 1 "FreshRun" Cf ["self", "program", "cached"] (spFrInit K Cp Cn Cf) [] := mICf.calC mkCf kcCf (PySem.W.mg_of X G aCCf) (fun _ _ _ _ _ _ us hl => match us, hl with | [_, _, _], _ => rfl) fun fd F => ok_frInit F TCf TCn
  have oCfask : CalM l.prog w K mg base CX0 35 Cf "ask" ["self", "name"] (spAsk K Cp Cf 16) := mCfask.cal (fun _ _ _ _ _ _ us hl => match us, hl with | [_, _], _ => rfl) fun fd F => ok_ask_run (n := 16) (k := 34) (by decide) F TCf O TCp (step_met mCfask mCfstep TCf O TCp vCALLING_KINDS qCALLING_KINDS 15) (fun m e => by rw [show m = 15 by omega])
  have q0PTrace0 : ∀ H, SqT K H t0PTrace0 [] := fun H => .inr ⟨o2PTrace0, #[], n2PTrace0, t4PTrace0, t6PTrace0, t5PTrace0, Nat.zero_le _, .nil⟩
  have FDPTrace : FunD K "trace" "trace" (defArgs sTrace) (defBody sTrace) (defScope sTrace) [] [(("cached" : Str), V.ref t0PTrace0)] fPTrace _ := ⟨⟨ocPTrace, odPTrace, .none, .ref kDPTrace, dcPTrace, pmPTrace, anPTrace, cdPTrace, cuPTrace, slPTrace, rfl, ilPTrace, icPTrace, .inl ⟨rfl, rfl⟩, .inr ⟨kDPTrace, rfl, fun q hq => by
    simp only [List.mem_cons, List.not_mem_nil, or_false] at hq
    rcases hq with rfl
    · exact ⟨_, t3PTrace0, rfl⟩⟩⟩, ikPTrace⟩
  have okPTrace : GFn l.prog w K mg base 37 fPTrace _ ["program", "name", "cached"] (spTrace K Cp Cn) := ok_trace FDPTrace TCf mk1Cf c_check_procedure c_checked_procedures oCfask
  obtain ⟨ds0PTrace, r0PTrace, b0PTrace⟩ := FDPTrace.binds0 (ps := ["program", "name", "cached"]) 2 (by simp) rfl fun _ _ _ _ _ _ us ks hu hk => match us, ks, hu, hk with | [_, _], [_], _, _ => ⟨_, _, _, _, _, _, rfl, rfl, rfl⟩
  have d_trace : GCD l.prog w K mg base 37 "trace" ["program", "name", "cached"] (spTrace K Cp Cn) [.ref t0PTrace0] := ⟨⟨fPTrace, _, ds0PTrace, okPTrace, PySem.W.mg_of X G iaPTrace, ikPTrace, b0PTrace, r0PTrace⟩⟩
  obtain ⟨mvPTraceA, kbPTraceA⟩ := FDPTrace.kbinds0 (ps := ["program", "name", "cached"]) 2 ["cached"] [] (fun vs ms zs => vs ++ zs) (by simp) (fun _ h => nomatch h) (fun r1 _ r3 => r1.append r3) fun _ _ _ _ _ _ us mv ws hu hm hw => match us, mv, ws, hu, hm, hw with | [_, _], [], [_], _, _, _ => rfl
  have kA_trace : GCK l.prog w K mg base 37 "trace" ["program", "name", "cached"] (spTrace K Cp Cn) 2 ["cached"] (fun vs zs => (fun (vs ms zs : List V) => vs ++ zs) vs [] zs) := ⟨⟨fPTrace, _, _, okPTrace, PySem.W.mg_of X G iaPTrace, ikPTrace, kbPTraceA⟩⟩
  have c_source : Cal l.prog w K mg base CX0 1 "_law_source" ["_law_script"] (spSource K) := dDSource.cal X G (fun _ _ _ _ _ _ us hl => match us, hl with | [_], _ => rfl) fun fd F => ok_source F vint venumerate
  have c_draw : Cal l.prog w K mg base CX0 1 "_law_draw" ["_law_source_here", "_law_many"] spDraw := dDDraw.cal X G (fun _ _ _ _ _ _ us hl => match us, hl with | [_, _], _ => rfl) fun fd F => ok_draw F vint
  have c_name : Cal l.prog w K mg base CX0 2 "_law_name" ["_law_source_here", "_law_taken"] (spName K) := dDName.cal X G (fun _ _ _ _ _ _ us hl => match us, hl with | [_, _], _ => rfl) fun fd F => ok_name F c_draw vrange
  have c_names : Cal l.prog w K mg base CX0 3 "_law_names" ["_law_source_here", "_law_many"] spNames := dDNames.cal X G (fun _ _ _ _ _ _ us hl => match us, hl with | [_, _], _ => rfl) fun fd F => ok_names F c_name vrange vlist
  have c_step : Cal l.prog w K mg base CX0 3 "_law_step" ["_law_source_here", "_law_names_here", "_law_places"] spStep := dDStep.cal X G (fun _ _ _ _ _ _ us hl => match us, hl with | [_, _, _], _ => rfl) fun fd F => ok_step F c_draw c_name vlen vint
  have c_program : Cal l.prog w K mg base CX0 4 "_law_program" ["_law_source_here", "_law_most"] spProgram := dDProgram.cal X G (fun _ _ _ _ _ _ us hl => match us, hl with | [_, _], _ => rfl) fun fd F => ok_program F c_draw c_names c_step vrange vint
  have c_copy : Cal l.prog w K mg base CX0 1 "_law_copy" ["_law_procedures"] spCopy := dDCopy.cal X G (fun _ _ _ _ _ _ us hl => match us, hl with | [_], _ => rfl) fun fd F => ok_copy F vlist
  have c_body : Cal l.prog w K mg base CX0 1 "_law_body" ["_law_procedures", "_law_name_here"] spBody := dDBody.cal X G (fun _ _ _ _ _ _ us hl => match us, hl with | [_, _], _ => rfl) fun fd F => ok_body F
  have c_subset : Cal l.prog w K mg base CX0 2 "_law_subset" ["_law_source_here", "_law_row"] (spSubset K) := dDSubset.cal X G (fun _ _ _ _ _ _ us hl => match us, hl with | [_, _], _ => rfl) fun fd F => ok_subset F c_draw
  have c_spread : Cal l.prog w K mg base CX0 2 "_law_spread" ["_law_procedures", "_law_starts", "_law_kinds", "_law_stops"] spSpread := dDSpread.cal X G (fun _ _ _ _ _ _ us hl => match us, hl with | [_, _, _, _], _ => rfl) fun fd F => ok_spread F c_body vlen vstr vsorted
  have c_without : Cal l.prog w K mg base CX0 1 "_law_without" ["_law_events", "_law_kept"] spWithout := dDWithout.cal X G (fun _ _ _ _ _ _ us hl => match us, hl with | [_, _], _ => rfl) fun fd F => ok_without F vany
  exact ok_law FL TCp mk1Cp c_source c_program c_copy c_subset c_spread c_without t4PTrace0 t6PTrace0 q0PTrace0 d_trace kA_trace vlist
end Mf
open PySem PySem.W PyProof.Rows
set_option maxRecDepth 100000 in
set_option maxHeartbeats 0 in
theorem PySem.Challenge.cw_midfall_k22_whole_insertion_holds : PySem.Challenge.rw_midfall_k22_whole_insertion.Holds := by
  w_on; o_law; k_head; (case hw => w_witness2)
  k_fill
  refine Mf.walk (n := 41) (l := PySem.Challenge.rw_midfall_k22_whole_insertion) rfl rfl ⟨rfl, by decide, by decide⟩ (fun w h Y => PySem.W.kIn_of Y) ?F
  case F =>
    intro w mg fa h KX G hmg
    refine' Mf.all_mk KX G hmg ?aCCn ?pgCn ?hdCn ?poCn ?saCn ?mkCn ?kcCn ?haCn ?hmCn ?ciCn ?ctCn ?kLCn ?kTCn ?neCn ?sfCn ?nCnmembers ?iaCn ?iiCn ?ilCn ?icCn ?ikCn ?t1Cn ?t2Cn ?t3Cn ?t4Cn ?t5Cn ?t6Cn ?aCneq ?lCneq ?cCneq ?kCneq ?iCneq ?nCneq ?aCnle ?lCnle ?cCnle ?kCnle ?iCnle ?nCnle ?aCnor ?lCnor ?cCnor ?kCnor ?iCnor ?nCnor ?aCncontains ?lCncontains ?cCncontains ?kCncontains ?iCncontains ?nCncontains ?aCCp ?pgCp ?hdCp ?poCp ?saCp ?mkCp ?kcCp ?haCp ?hmCp ?ciCp ?ctCp ?kLCp ?kTCp ?neCp ?sfCp ?nCp_bodies ?nCpnames ?nCpplaces ?aICp ?lICp ?cICp ?kICp ?iICp ?nICp ?aCpeq ?lCpeq ?cCpeq ?kCpeq ?iCpeq ?nCpeq ?aCpgetitem ?lCpgetitem ?cCpgetitem ?kCpgetitem ?iCpgetitem ?nCpgetitem ?aCpcontains ?lCpcontains ?cCpcontains ?kCpcontains ?iCpcontains ?nCpcontains ?aCplen ?lCplen ?cCplen ?kCplen ?iCplen ?nCplen ?aCCf ?pgCf ?hdCf ?poCf ?saCf ?mkCf ?kcCf ?haCf ?hmCf ?ciCf ?ctCf ?kLCf ?kTCf ?neCf ?sfCf ?nCfprogram ?nCfevents ?nCfknown ?aICf ?lICf ?cICf ?kICf ?iICf ?nICf ?aCfask ?lCfask ?cCfask ?kCfask ?iCfask ?nCfask ?aCfstep ?lCfstep ?cCfstep ?kCfstep ?iCfstep ?nCfstep ?hn ?htk ?aDIs_name ?lDIs_name ?cDIs_name ?kDIs_name ?aDIs_step ?lDIs_step ?cDIs_step ?kDIs_step ?aDIs_body ?lDIs_body ?cDIs_body ?kDIs_body ?aDChecked_bodies ?lDChecked_bodies ?cDChecked_bodies ?kDChecked_bodies ?aDCheck_callees ?lDCheck_callees ?cDCheck_callees ?kDCheck_callees ?aDPlaces ?lDPlaces ?cDPlaces ?kDPlaces ?aDCheck_procedure ?lDCheck_procedure ?cDCheck_procedure ?kDCheck_procedure ?aDChecked_procedures ?lDChecked_procedures ?cDChecked_procedures ?kDChecked_procedures ?aDSource ?lDSource ?cDSource ?kDSource ?aDDraw ?lDDraw ?cDDraw ?kDDraw ?aDName ?lDName ?cDName ?kDName ?aDNames ?lDNames ?cDNames ?kDNames ?aDStep ?lDStep ?cDStep ?kDStep ?aDProgram ?lDProgram ?cDProgram ?kDProgram ?aDCopy ?lDCopy ?cDCopy ?kDCopy ?aDBody ?lDBody ?cDBody ?kDBody ?aDSubset ?lDSubset ?cDSubset ?kDSubset ?aDSpread ?lDSpread ?cDSpread ?kDSpread ?aDWithout ?lDWithout ?cDWithout ?kDWithout ?aDLaw ?lDLaw ?cDLaw ?kDLaw ?iaPTrace ?ilPTrace ?icPTrace ?ikPTrace ?t3PTrace0 ?t4PTrace0 ?t5PTrace0 ?t6PTrace0 ?aLONGEST_NAME ?aMOST_STEPS ?aMOST_PROCEDURES ?aKINDS ?lKINDS ?dKINDS ?iKINDS ?cKINDS ?aCALLING_KINDS ?lCALLING_KINDS ?dCALLING_KINDS ?iCALLING_KINDS ?cCALLING_KINDS ?zint ?zenumerate ?zrange ?zlist ?ztuple ?zsorted ?zstr ?zall ?zisinstance ?zbool ?zlen ?zset ?zany
    (case aCCn => k_is)
    (case pgCn => k_is)
    (case hdCn => k_is)
    (case poCn => k_is)
    (case saCn => k_is)
    (case mkCn => k_is)
    (case kcCn => k_is)
    (case haCn => k_is)
    (case hmCn => k_is)
    (case ciCn => k_is)
    (case ctCn => k_is)
    (case kLCn => k_is)
    (case kTCn => k_is)
    (case neCn => k_is)
    (case sfCn => k_is)
    (case nCnmembers => k_is)
    (case iaCn => k_is)
    (case iiCn => k_is)
    (case ilCn => k_is)
    (case icCn => k_is)
    (case ikCn => k_is)
    (case t1Cn => k_is)
    (case t2Cn => rfl)
    (case t3Cn => rfl)
    (case t4Cn => k_is)
    (case t5Cn => rfl)
    (case t6Cn => rfl)
    (case aCneq => k_is)
    (case lCneq => k_is)
    (case cCneq => k_is)
    (case kCneq => k_is)
    (case iCneq => k_is)
    (case nCneq => k_is)
    (case aCnle => k_is)
    (case lCnle => k_is)
    (case cCnle => k_is)
    (case kCnle => k_is)
    (case iCnle => k_is)
    (case nCnle => k_is)
    (case aCnor => k_is)
    (case lCnor => k_is)
    (case cCnor => k_is)
    (case kCnor => k_is)
    (case iCnor => k_is)
    (case nCnor => k_is)
    (case aCncontains => k_is)
    (case lCncontains => k_is)
    (case cCncontains => k_is)
    (case kCncontains => k_is)
    (case iCncontains => k_is)
    (case nCncontains => k_is)
    (case aCCp => k_is)
    (case pgCp => k_is)
    (case hdCp => k_is)
    (case poCp => k_is)
    (case saCp => k_is)
    (case mkCp => k_is)
    (case kcCp => k_is)
    (case haCp => k_is)
    (case hmCp => k_is)
    (case ciCp => k_is)
    (case ctCp => k_is)
    (case kLCp => k_is)
    (case kTCp => k_is)
    (case neCp => k_is)
    (case sfCp => k_is)
    (case nCp_bodies => k_is)
    (case nCpnames => k_is)
    (case nCpplaces => k_is)
    (case aICp => k_is)
    (case lICp => k_is)
    (case cICp => k_is)
    (case kICp => k_is)
    (case iICp => k_is)
    (case nICp => k_is)
    (case aCpeq => k_is)
    (case lCpeq => k_is)
    (case cCpeq => k_is)
    (case kCpeq => k_is)
    (case iCpeq => k_is)
    (case nCpeq => k_is)
    (case aCpgetitem => k_is)
    (case lCpgetitem => k_is)
    (case cCpgetitem => k_is)
    (case kCpgetitem => k_is)
    (case iCpgetitem => k_is)
    (case nCpgetitem => k_is)
    (case aCpcontains => k_is)
    (case lCpcontains => k_is)
    (case cCpcontains => k_is)
    (case kCpcontains => k_is)
    (case iCpcontains => k_is)
    (case nCpcontains => k_is)
    (case aCplen => k_is)
    (case lCplen => k_is)
    (case cCplen => k_is)
    (case kCplen => k_is)
    (case iCplen => k_is)
    (case nCplen => k_is)
    (case aCCf => k_is)
    (case pgCf => k_is)
    (case hdCf => k_is)
    (case poCf => k_is)
    (case saCf => k_is)
    (case mkCf => k_is)
    (case kcCf => k_is)
    (case haCf => k_is)
    (case hmCf => k_is)
    (case ciCf => k_is)
    (case ctCf => k_is)
    (case kLCf => k_is)
    (case kTCf => k_is)
    (case neCf => k_is)
    (case sfCf => k_is)
    (case nCfprogram => k_is)
    (case nCfevents => k_is)
    (case nCfknown => k_is)
    (case aICf => k_is)
    (case lICf => k_is)
    (case cICf => k_is)
    (case kICf => k_is)
    (case iICf => k_is)
    (case nICf => k_is)
    (case aCfask => k_is)
    (case lCfask => k_is)
    (case cCfask => k_is)
    (case kCfask => k_is)
    (case iCfask => k_is)
    (case nCfask => k_is)
    (case aCfstep => k_is)
    (case lCfstep => k_is)
    (case cCfstep => k_is)
    (case kCfstep => k_is)
    (case iCfstep => k_is)
    (case nCfstep => k_is)
    (case hn => k_is)
    (case htk => k_is)
    (case aDIs_name => k_is)
    (case lDIs_name => k_is)
    (case cDIs_name => k_is)
    (case kDIs_name => k_is)
    (case aDIs_step => k_is)
    (case lDIs_step => k_is)
    (case cDIs_step => k_is)
    (case kDIs_step => k_is)
    (case aDIs_body => k_is)
    (case lDIs_body => k_is)
    (case cDIs_body => k_is)
    (case kDIs_body => k_is)
    (case aDChecked_bodies => k_is)
    (case lDChecked_bodies => k_is)
    (case cDChecked_bodies => k_is)
    (case kDChecked_bodies => k_is)
    (case aDCheck_callees => k_is)
    (case lDCheck_callees => k_is)
    (case cDCheck_callees => k_is)
    (case kDCheck_callees => k_is)
    (case aDPlaces => k_is)
    (case lDPlaces => k_is)
    (case cDPlaces => k_is)
    (case kDPlaces => k_is)
    (case aDCheck_procedure => k_is)
    (case lDCheck_procedure => k_is)
    (case cDCheck_procedure => k_is)
    (case kDCheck_procedure => k_is)
    (case aDChecked_procedures => k_is)
    (case lDChecked_procedures => k_is)
    (case cDChecked_procedures => k_is)
    (case kDChecked_procedures => k_is)
    (case aDSource => k_is)
    (case lDSource => k_is)
    (case cDSource => k_is)
    (case kDSource => k_is)
    (case aDDraw => k_is)
    (case lDDraw => k_is)
    (case cDDraw => k_is)
    (case kDDraw => k_is)
    (case aDName => k_is)
    (case lDName => k_is)
    (case cDName => k_is)
    (case kDName => k_is)
    (case aDNames => k_is)
    (case lDNames => k_is)
    (case cDNames => k_is)
    (case kDNames => k_is)
    (case aDStep => k_is)
    (case lDStep => k_is)
    (case cDStep => k_is)
    (case kDStep => k_is)
    (case aDProgram => k_is)
    (case lDProgram => k_is)
    (case cDProgram => k_is)
    (case kDProgram => k_is)
    (case aDCopy => k_is)
    (case lDCopy => k_is)
    (case cDCopy => k_is)
    (case kDCopy => k_is)
    (case aDBody => k_is)
    (case lDBody => k_is)
    (case cDBody => k_is)
    (case kDBody => k_is)
    (case aDSubset => k_is)
    (case lDSubset => k_is)
    (case cDSubset => k_is)
    (case kDSubset => k_is)
    (case aDSpread => k_is)
    (case lDSpread => k_is)
    (case cDSpread => k_is)
    (case kDSpread => k_is)
    (case aDWithout => k_is)
    (case lDWithout => k_is)
    (case cDWithout => k_is)
    (case kDWithout => k_is)
    (case aDLaw => k_is)
    (case lDLaw => k_is)
    (case cDLaw => k_is)
    (case kDLaw => k_is)
    (case iaPTrace => k_is)
    (case ilPTrace => k_is)
    (case icPTrace => k_is)
    (case ikPTrace => k_is)
    (case t3PTrace0 => k_is)
    (case t4PTrace0 => k_is)
    (case t5PTrace0 => rfl)
    (case t6PTrace0 => rfl)
    (case aLONGEST_NAME => k_is)
    (case aMOST_STEPS => k_is)
    (case aMOST_PROCEDURES => k_is)
    (case aKINDS => k_is)
    (case lKINDS => k_is)
    (case dKINDS => rfl)
    (case iKINDS => rfl)
    (case cKINDS => rfl)
    (case aCALLING_KINDS => k_is)
    (case lCALLING_KINDS => k_is)
    (case dCALLING_KINDS => rfl)
    (case iCALLING_KINDS => rfl)
    (case cCALLING_KINDS => rfl)
    (case zint => k_is)
    (case zenumerate => k_is)
    (case zrange => k_is)
    (case zlist => k_is)
    (case ztuple => k_is)
    (case zsorted => k_is)
    (case zstr => k_is)
    (case zall => k_is)
    (case zisinstance => k_is)
    (case zbool => k_is)
    (case zlen => k_is)
    (case zset => k_is)
    (case zany => k_is)
