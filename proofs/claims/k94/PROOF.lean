import PyProof.Rows.All
import Wide.All
import OpenK.AllK
import Wide.FinOn
import HandS.ForExc
import HandS.ForMost
import HandS.IsInst
import HandS.Wide
import HandS.Walk
import HandS.TupAny
import HandS.Defaults
import HandS.SlotsOwn
import HandS.Codes
import HandS.RaiseMore
import PyProof.InstEq
import HandS.Set
import HandS.More
import HandS.SetTxt0
import HandS.SetFor
import PyProof.Rows.SortShellAny
import HandS.Iter
import KE.GoesEnumKw
import KE.GoesMore
import PyProof.Draws
import KE.KDictWalk
import HandS.Text
import HandS.FStr
import HandS.ExcInit
import HandS.ExcValue
import HandS.ExcIs
import HandS.ExcField
import HandS.MakeKwOnly
import HandS.ExcOwn
import HandS.DictComp
import HandS.Conv
import HandS.Flow
import HandS.Words
import HandS.Deep
import PyProof.P3In
import HandS.Star
import HandS.ClsMeth
import HandS.StrMore
import KE.IntTextLaws
import KE.IntTextText
import PyProof.StrOps2
import HandS.Style
import PyProof.P3Eq
import PySem.Challenge.RW_midfall_k94_bad_histories
set_option Elab.async false
set_option maxRecDepth 100000
/-! Heaps with a source of draws; calls by one fact; texts that are names. -/
namespace Mf
open PySem L2

/-! ### heaps -/
/-- all that was tracked but what stands at a is as it was -/
def Kp (a : Addr) (H H' : Hp) : Prop := ∀ b o, b ≠ a → H b = some o → H' b = some o
theorem Kp.refl {a : Addr} {H : Hp} : Kp a H H := fun _ _ _ h => h
theorem Kp.trans {a : Addr} {H H1 H2 : Hp} (x : Kp a H H1) (y : Kp a H1 H2) : Kp a H H2 := fun b o n h => y b o n (x b o n h)
theorem Kp.same {a : Addr} {H H' : Hp} (x : Same H H') : Kp a H H' := fun b o _ h => x b o h
theorem Kp.then {a : Addr} {H H1 H2 : Hp} (x : Kp a H H1) (y : Same H1 H2) : Kp a H H2 := x.trans (.same y)
theorem Kp.new {a p : Addr} {H : Hp} {o : HO} (h : H p = none) : Kp a H (upd H p o) := fun b u _ e => by rw [upd_ne (ne_of_none e h)]; exact e
theorem Kp.put {a : Addr} {H H1 : Hp} {o : HO} (x : Kp a H H1) : Kp a H (upd H1 a o) := fun b u n e => by rw [upd_ne n]; exact x b u n e
/-- p was not there at H: it may change -/
theorem Kp.mut {a p : Addr} {H H1 : Hp} {o : HO} (x : Kp a H H1) (h : H p = none) : Kp a H (upd H1 p o) := fun b u n e => by rw [upd_ne (ne_of_none e h)]; exact x b u n e
theorem Kp.lst {K : PySem.W.Frag} {a t : Addr} {H H' : Hp} {xs : List V} (x : Kp a H H') (n : t ≠ a) (h : SqL K H t xs) : SqL K H' t xs := by
  rcases h with (h | ⟨o, h⟩) | h
  · exact .inl (.inl (x _ _ n h))
  · exact .inl (.inr ⟨o, x _ _ n h⟩)
  · exact .inr h
theorem Kp.tup {K : PySem.W.Frag} {a t : Addr} {H H' : Hp} {xs : List V} (x : Kp a H H') (n : t ≠ a) (h : SqT K H t xs) : SqT K H' t xs := by
  rcases h with (h | ⟨o, h⟩) | h
  · exact .inl (.inl (x _ _ n h))
  · exact .inl (.inr ⟨o, x _ _ n h⟩)
  · exact .inr h
theorem _root_.L2.Same.new {p : Addr} {H : Hp} {o : HO} (h : H p = none) : Same H (upd H p o) := fun b u e => by rw [upd_ne (ne_of_none e h)]; exact e
theorem _root_.L2.Same.mut {p : Addr} {H H1 : Hp} {o : HO} (x : Same H H1) (h : H p = none) : Same H (upd H1 p o) := fun b u e => by rw [upd_ne (ne_of_none e h)]; exact x b u e
theorem _root_.L2.Same.tup {K : PySem.W.Frag} {t : Addr} {H H' : Hp} {xs : List V} (x : Same H H') (h : SqT K H t xs) : SqT K H' t xs := by
  rcases h with (h | ⟨o, h⟩) | h
  · exact .inl (.inl (x _ _ h))
  · exact .inl (.inr ⟨o, x _ _ h⟩)
  · exact .inr h
theorem ne_none {H : Hp} {p a : Addr} {o : HO} (h : H p = none) (h' : H a = some o) : p ≠ a := fun e => by rw [e, h'] at h; cases h

/-! ### the source of draws -/
/-- at a: a source that has n draws left, and more -/
def Src (H : Hp) (a : Addr) (n : Nat) : Prop := ∃ g s c : Int, H a = some (.lst [.int g, .int s, .int c]) ∧ 0 ≤ s ∧ s < 2147483647 ∧ 0 ≤ c ∧ c + n ≤ 1099511627776
theorem Src.mono {H : Hp} {a : Addr} {n m : Nat} (x : Src H a n) (h : m ≤ n) : Src H a m := let ⟨g, s, c, e, a1, a2, a3, a4⟩ := x; ⟨g, s, c, e, a1, a2, a3, by omega⟩
theorem Src.same {H H' : Hp} {a : Addr} {n : Nat} (x : Src H a n) (h : Same H H') : Src H' a n := let ⟨g, s, c, e, r⟩ := x; ⟨g, s, c, h _ _ e, r⟩
theorem Src.ne {H : Hp} {a p : Addr} {n : Nat} (x : Src H a n) (h : H p = none) : p ≠ a := let ⟨_, _, _, e, _⟩ := x; ne_none h e
theorem Src.new {H : Hp} {a p : Addr} {n : Nat} {o : HO} (x : Src H a n) (h : H p = none) : Src (upd H p o) a n := x.same (Same.new h)
theorem Src.put {H : Hp} {a p : Addr} {n : Nat} {o : HO} (x : Src H a n) (h : p ≠ a) : Src (upd H p o) a n := let ⟨g, s, c, e, r⟩ := x; ⟨g, s, c, by rw [upd_ne (Ne.symm h)]; exact e, r⟩

/-! ### a def that is called by its name: one fact -/
structure Cal (P : Program) (w : World) (K : PySem.W.Frag) (mg : Str → Option Value) (base : Heap) (CX : CXT) (k : Nat) (x : Str) (ps : List Str) (sp : Sp) : Prop where
  ex : ∃ (f : Addr) (fd : FuncData), FnOk P w K mg base CX k f fd ps sp ∧ mg x = some (.ref f) ∧ PySem.W.keepIn K (.ref f) = true ∧ Binds K fd ps []
theorem pe_cal {X : Cx} {CX : CXT} {k : Nat} {x : Str} {ps : List Str} {sp : Sp} {E : XK} {e : Expr} {es : List Expr} {t : TA} {p pos : Pos} (c : Cal X.prog X.w X.K X.mg X.base CX k x ps sp) (hr : Room k X.A) (hx : Passes CX X E) (ha : PA X (e :: es) t) (hg : Gl X x := by rfl)
    (hdb : (x == ("__debug__" : Str)) = false := by decide) (he : starEach (e :: es) X.env = (false, eval e X.env) :: starEach es X.env := by rfl) (hpl : (backTo pos (starEach es X.env)).any (·.1) = false := by rfl) :
    PE X (.Call (.Name x p) (e :: es) [] pos) (tCall sp [] E t) := by
  obtain ⟨f, fd, F, m, kp, b⟩ := c.ex
  exact pe_call F hr hg m kp b .nil hx ha hdb he hpl
theorem Cal.mono {P : Program} {w : World} {K : PySem.W.Frag} {mg : Str → Option Value} {base : Heap} {CX : CXT} {k j : Nat} {x : Str} {ps : List Str} {sp : Sp} (c : Cal P w K mg base CX k x ps sp) (h : k ≤ j) : Cal P w K mg base CX j x ps sp :=
  let ⟨f, fd, F, m, kp, b⟩ := c.ex
  ⟨⟨f, fd, F.mono h, m, kp, b⟩⟩

/-! ### names -/
def Low (c : Nat) : Prop := 97 ≤ c ∧ c ≤ 122
def IsName (z : Str) : Prop := 1 ≤ z.cps.size ∧ z.cps.size ≤ 8 ∧ ∀ c ∈ z.cps.toList, Low c
instance (z : Str) : Decidable (IsName z) := by unfold IsName Low; infer_instance
theorem IsName.len {z : Str} (h : IsName z) : z.length ≤ 8 := h.2.1

theorem alpha_at {i : Int} (h0 : 0 ≤ i) (h : i < 26) : ∃ c, atI ("abcdefghijklmnopqrstuvwxyz" : Str).cps.toList i = some c ∧ Low c := by
  obtain ⟨n, rfl⟩ := Int.eq_ofNat_of_zero_le h0
  have e : ∀ n : Fin 26, atI ("abcdefghijklmnopqrstuvwxyz" : Str).cps.toList ((n.val : Nat) : Int) = some (97 + n.val) := by decide +kernel
  exact ⟨97 + n, e ⟨n, by omega⟩, by unfold Low; omega⟩

theorem atI_mem {α : Type} {xs : List α} {v : Int} (h0 : 0 ≤ v) (h : v < xs.length) : ∃ x ∈ xs, atI xs v = some x := by
  obtain ⟨n, rfl⟩ := Int.eq_ofNat_of_zero_le h0
  have hn : n < xs.length := by omega
  refine ⟨xs[n], List.getElem_mem hn, ?_⟩
  exact atI_nat (List.getElem?_eq_getElem hn)
theorem inV_str {z : Str} {zs : List Str} : inV (.str z) (zs.map V.str) = decide (z ∈ zs) := by
  unfold inV
  induction zs with
  | nil => rfl
  | cons y ys ih =>
    rw [List.map_cons, List.any_cons, ih]
    show ((y == z) || _) = _
    by_cases h : y = z
    · subst h; simp
    · have h' : ¬ z = y := fun e => h e.symm
      simp [h, h']
theorem tl_inj {x y : Str} (h : x.cps.toList = y.cps.toList) : x = y := by
  cases x; cases y
  simp only [Str.mk.injEq]
  exact Array.toList_inj.mp h
theorem join_nil (ys : List Str) : (Txt.join ("" : Str) ys).cps.toList = (ys.map fun y => y.cps.toList).flatten := by
  rw [TL.join_eq, show (Str.join ("" : Str) ys).cps.toList = TL.tl (Str.join ("" : Str) ys) from rfl, TL.tl_join]
  show TL.joinL [] (ys.map TL.tl) = _
  generalize ys.map TL.tl = l
  induction l with
  | nil => rfl
  | cons p r ih =>
    cases r with
    | nil => simp [TL.joinL]
    | cons q r => show p ++ ([] ++ TL.joinL [] (q :: r)) = _; rw [ih]; simp
theorem join_signs (cs : List Nat) : Txt.join ("" : Str) (cs.map fun c => (⟨#[c]⟩ : Str)) = ⟨cs.toArray⟩ := by
  refine tl_inj ?_
  rw [join_nil, List.map_map]
  show (cs.map fun c => [c]).flatten = cs
  induction cs with
  | nil => rfl
  | cons c cs ih => rw [List.map_cons, List.flatten_cons, ih]; rfl
theorem str_add (x y : Str) : (x ++ y).cps.toList = x.cps.toList ++ y.cps.toList := TL.tl_append x y
theorem len_tl (z : Str) : z.length = z.cps.toList.length := by show z.cps.size = _; rw [Array.length_toList]

/-! ### rules whose reading names the written part (for comprehensions' blocks) -/
section
variable (K : PySem.W.Frag) {X : Cx}
theorem ixl (h : X.K = K := by rfl) : IxR X (rIxL K) := h ▸ ix_list
theorem ixt (h : X.K = K := by rfl) : IxR X (rIxT K) := h ▸ ix_tup
theorem oin (h : X.K = K := by rfl) : OpR X (compareOp .In) (rIn K false) := h ▸ op_in_seq
theorem nin (h : X.K = K := by rfl) : OpR X (compareOp .NotIn) (rIn K true) := h ▸ op_notIn_seq
def rLenK : List V → Hp → VK → Prop := fun xs H Q => ∃ p ys, xs = [.ref p] ∧ (SqL K H p ys ∨ SqT K H p ys) ∧ Q (.int (ys.length : Nat)) H
theorem k_len (h : X.K = K := by rfl) : CallR X (.builtin "len") (rLenK K) := h ▸ call_len_seq
def rListK : List V → Hp → VK → Prop := fun xs H Q => ∃ p ys, xs = [.ref p] ∧ (SqL K H p ys ∨ SqT K H p ys) ∧ ∀ l, H l = none → Q (.ref l) (upd H l (.lst ys))
theorem k_list (h : X.K = K := by rfl) : CallR X (.type "list") (rListK K) := h ▸ call_list_of
def rTupK : List V → Hp → VK → Prop := fun xs H Q => ∃ p ys, xs = [.ref p] ∧ ((SqL K H p ys ∧ ∀ l, H l = none → Q (.ref l) (upd H l (.tup ys))) ∨ (SqT K H p ys ∧ Q (.ref p) H))
theorem k_tuple (h : X.K = K := by rfl) : CallR X (.type "tuple") (rTupK K) := h ▸ call_tuple_of
theorem k_isi (h : X.K = K := by rfl) : CallR X (.builtin "isinstance") (rIsi K) := h ▸ call_isi
theorem k_all (hc : X.calm = true := by rfl) (h : X.K = K := by rfl) : CallR X (.builtin "all") (rAll K) := h ▸ cr_all hc
theorem k_any (hc : X.calm = true := by rfl) (h : X.K = K := by rfl) : CallR X (.builtin "any") (rAny K) := h ▸ cr_any hc
theorem k_sortedS (h : X.K = K := by rfl) : CallR X (.builtin "sorted") (rSortedS K) := h ▸ cr_sortedS
theorem eqD {k : Nat} (hr : Room k X.A) (h : X.K = K := by rfl) : OpR X (compareOp .Eq) (rEqD K) := h ▸ op_eqD hr.units
theorem neD {k : Nat} (hr : Room k X.A) (h : X.K = K := by rfl) : OpR X (compareOp .NotEq) (rNeD K) := h ▸ op_neD hr.units
theorem fldK {e : Expr} {ta : TE} {f : Str} {pos : Pos} (he : PE X e ta) (hb : attributeBase e f X.env (eval e X.env) = eval e X.env := by rfl) (h : X.K = K := by rfl) : PE X (.Attribute e f pos) (tFld K ta f) := h ▸ pe_fld he hb
end
theorem yes_then {σ : L2.St} {H : Hp} {A B : Hp → Prop} (h : A H) : tYes σ H (fun b H3 => if b = true then A H3 else B H3) := by
  show (if true = true then A H else B H)
  rw [if_pos rfl]
  exact h
end Mf
/-! Operators of own classes (dunder methods that are plain defs), over the hand layer. -/
namespace Mf
open PySem PySem.Spec PyProof.Rows L2

section
variable {X : Cx} {CX : CXT} {k : Nat} {f C a dx : Addr} {fd : FuncData} {ps : List Str} {sp : Sp} {E : XK} {ds : List Value} {dvs : List V} {pins : List (Addr × Obj)} {σ : L2.St} {H : Hp} {s : Shared} {fs : List (Str × V)}

theorem Inv.inst (I : Inv X pins σ H s) (e : H a = some (.ins C dx fs)) : ∃ od, PySem.W.InstAt s.heap a (PySem.W.instObj C dx) C (some od) :=
  let ⟨_, O, _⟩ := ins_get I.hok e
  let ⟨od, i, _⟩ := O.look
  ⟨od, i⟩

/-- a def runs, from anywhere under the body X -/
theorem run_in {A : Around} {Q : VK} {us : List Value} {vs : List V} (F : FnOk X.prog X.w X.K X.mg X.base CX k f fd ps sp) (hr : Room k A) (hb : Binds X.K fd ps ds) (hd : Vals dvs ds) (hx : Passes CX X E)
    (e0 : Env0 X.prog X.w X.K X.mg X.base A X.stack s H) (I : Inv X pins σ H s) (r : Vals vs us) (h : sp (vs ++ dvs) H Q E) : wpAny (model X.prog X.w) A (call (.ref f) us) (EP X pins σ Q) X.xe s := by
  have r2 : Vals (vs ++ dvs) (us ++ ds) := r.append hd
  have hl : (us ++ ds).length = ps.length := by rw [← r2.length]; exact F.len _ _ _ _ h
  refine wpAny_call (codeAny_mono (F.run A X.stack s H ⟨us, []⟩ (us ++ ds) (vs ++ dvs) Q E hr e0 (hb s us I.kIn hl) r2 h) fun r s' hq => ?_)
  rcases r with e | fl
  · exact hx pins σ H s e s' I hq
  · rcases fl with _ | _ | _ | u
    all_goals first | exact False.elim hq | exact I.after hq

/-- what type the other operand has: it isn't below C -/
def NotBelow (K : PySem.W.Frag) (C : Addr) (y : V) (H : Hp) : Prop := ∃ t, TyX K H y t ∧ PySem.W.notFirst K C t = true

/-- x op y by the class's own def -/
def rCmpO (K : PySem.W.Frag) (C : Addr) (sp : Sp) (E : XK) : R2 := fun x y H Q => ∃ a dx fs, x = .ref a ∧ H a = some (.ins C dx fs) ∧ NotBelow K C y H ∧ sp [x, y] H Q E
theorem op_cmpO {op : CmpOp} (m : Meth X.K C (cmpInfo op).2.1 f) (F : FnOk X.prog X.w X.K X.mg X.base CX k f fd ps sp) (hr : Room k X.A) (hb : Binds X.K fd ps []) (hx : Passes CX X E)
    (hop : ∀ a b, compareOp op a b = richCompare op a b := by exact fun _ _ => rfl) : OpR X (compareOp op) (rCmpO X.K C sp E) := by
  intro pins s σ H x y v u Q I rx ry h
  obtain ⟨a, dx, fs, rfl, ha, ⟨t, ty, nb⟩, q⟩ := h
  cases (show v = Value.ref a from rx)
  obtain ⟨od, J⟩ := Inv.inst I ha
  obtain ⟨mm, hF⟩ := I.fr
  obtain ⟨Pk, Z, p, _⟩ := kit_of I ry ty
  rw [hop]
  refine PySem.W.cmp_K (op := op) (tb := t) hr.units0 hF I.ok.mod.kin J (Z.ty _ _ I.kIn p) nb m.at_ m.fn ?_
  refine wpAny_mono (run_in (us := [.ref a, u]) (vs := [.ref a, y]) F hr hb .nil hx I.env0 I (.cons rfl (.cons ry .nil)) (by rw [List.append_nil]; exact q)) (fun z s' e => ?_) fun _ _ e => e
  obtain ⟨z', H', I', rz, qz⟩ := e
  exact SlX.cmpback rz ⟨z', H', I', rz, qz⟩

/-- x != y by the class's own __eq__ -/
def rNeO (K : PySem.W.Frag) (C : Addr) (sp : Sp) (E : XK) : R2 := fun x y H Q => ∃ a dx fs, x = .ref a ∧ H a = some (.ins C dx fs) ∧ NotBelow K C y H ∧ sp [x, y] H (fun v H' => ∃ b, v = .bl b ∧ Q (.bl (!b)) H') E
theorem op_neO (m : Meth X.K C "__eq__" f) (ne : PySem.W.findIn X.K (.ref C) "__ne__" = some (some (.builtin "object.__ne__"))) (mo : PySem.W.mroIn X.K C (.type "object") = some true)
    (F : FnOk X.prog X.w X.K X.mg X.base CX k f fd ps sp) (hr : Room (k + 1) X.A) (hb : Binds X.K fd ps []) (hx : Passes CX X E) : OpR X (compareOp .NotEq) (rNeO X.K C sp E) := by
  intro pins s σ H x y v u Q I rx ry h
  obtain ⟨a, dx, fs, rfl, ha, ⟨t, ty, nb⟩, q⟩ := h
  cases (show v = Value.ref a from rx)
  obtain ⟨od, J⟩ := Inv.inst I ha
  obtain ⟨Pk, Z, p, _⟩ := kit_of I ry ty
  have Lb : PySem.W.Looks (model X.prog X.w) s.heap (typeOf u) t := Z.ty _ _ I.kIn p
  have core : wpAny (model X.prog X.w) X.A (call (.builtin "object.__ne__") [.ref a, u]) (EP X pins σ Q) X.xe s := by
    refine wpAny_call (codeAny_call_builtin PySem.F.cmp_object.ne.plain PySem.F.cmpEntry_ne (PySem.W.check_slot (i := "object.__ne__") (owner := "object") (n := "__ne__") PySem.F.cmpKind_ne PySem.F.cmpSplit_ne (J.type.andThen (PySem.W.looks_mroIn I.kIn mo)) (PySem.F.cmpArgs_ne _ _) ?_))
    unfold Builtin.«object.__ne__»
    refine wpAny_bind (m := slotArgs "__ne__" 1 _) (wpAny_pure ?_)
    refine wpAny_bind (m := cRoomFor _ _) (wpAny_cRoomFor (hr.in1).units0 ?_)
    refine wpAny_bind (m := callSpecialIfBound? (.ref a) (Str.ofString "__eq__") _) (PySem.W.ifBound_K I.kIn J m.at_ m.fn ?_)
    refine wpAny_mono (run_in (us := [.ref a, u]) (vs := [.ref a, y]) F hr.in1 hb .nil hx I.env0.in1 I (.cons rfl (.cons ry .nil)) (by rw [List.append_nil]; exact q)) (fun z s' e => ?_) fun _ _ e => e
    obtain ⟨z', H', I', rz, b, rfl, qz⟩ := e
    cases (show z = Value.bool b from rz)
    exact wpAny_bind (wpAny_truthy_bool (wpAny_pure ⟨.bl (!b), H', I', rfl, qz⟩))
  have one : wpAny (model X.prog X.w) X.A (tryCompare (.ref a) "__ne__" u) (fun r s' => ∃ v, r = some v ∧ EP X pins σ Q v s') X.xe s := by
    unfold tryCompare
    refine wpAny_bind ?_
    simp only [callSpecialIfBound?, bindSpecialIfBound?]
    refine wpAny_holding (wpAny_bind (wpAny_bind (wpAny_bind (J.type.here ((PySem.W.looks_findIn I.kIn ne).here ?_)))))
    simp only [PySem.F.cmp_object.ne.bind]
    have fin : wpAny (model X.prog X.w) X.A (call (.builtin "object.__ne__") ([.ref a] ++ [u]) >>= fun v => pure (some v)) (fun a_1 s' => wpAny (model X.prog X.w) X.A (match a_1 with
        | some Value.notImplemented | none => pure none
        | some v => pure (some v)) (fun r s' => ∃ v, r = some v ∧ EP X pins σ Q v s') X.xe s') X.xe s := by
      refine wpAny_bind (wpAny_mono core (fun z s' e => wpAny_pure ?_) fun _ _ e => e)
      have e2 := e
      obtain ⟨z', H', I', rz, qz⟩ := e2
      have nn : PySem.W.CmpBack (fun z s' => EP X pins σ Q z s') z s' := SlX.cmpback rz e
      cases z <;> first | exact nn.elim | exact wpAny_pure ⟨_, rfl, nn⟩
    refine wpAny_bind (wpAny_askSetting (wpAny_ite ?_))
    split
    · exact wpAny_bind (wpAny_pure (wpAny_pure fin))
    · exact wpAny_tryCatch (wpAny_bind (wpAny_pure (wpAny_pure fin)))
  show wpAny _ _ (richCompare .NotEq (.ref a) u) _ _ s
  unfold richCompare
  simp only [oneThing_ref]
  refine wpAny_holding (wpAny_bind (wpAny_cRoomFor hr.units0 ?_))
  refine wpAny_bind (J.type.here (wpAny_bind (Lb.here ?_)))
  split
  · rename_i h1
    have e : PySem.W.subIn X.K t (.ref C) = some false := by
      rcases Bool.or_eq_true_iff.mp nb with e | e
      · rw [beq_iff_eq.mp e] at h1; simp at h1
      · exact beq_iff_eq.mp e
    refine wpAny_bind ((PySem.W.looks_subIn I.kIn e).here ?_)
    simp only [Bool.false_eq_true, if_false]
    refine wpAny_bind (wpAny_mono one (fun r s' z => ?_) fun _ _ e => e)
    obtain ⟨v, rfl, hq⟩ := z
    exact wpAny_pure hq
  · refine wpAny_bind (wpAny_pure ?_)
    simp only [Bool.false_eq_true, if_false]
    refine wpAny_bind (wpAny_mono one (fun r s' z => ?_) fun _ _ e => e)
    obtain ⟨v, rfl, hq⟩ := z
    exact wpAny_pure hq

/-- x op y, both of the class -/
def rBinO (C : Addr) (sp : Sp) (E : XK) : R2 := fun x y H Q => ∃ a dx fs b dy gs, x = .ref a ∧ y = .ref b ∧ H a = some (.ins C dx fs) ∧ H b = some (.ins C dy gs) ∧ sp [x, y] H Q E
theorem op_binO {op : Operator} (m : Meth X.K C (PySem.dunder op.info.2) f) (sf : PySem.W.selfFirst X.K C = true) (F : FnOk X.prog X.w X.K X.mg X.base CX k f fd ps sp) (hr : Room k X.A) (hb : Binds X.K fd ps []) (hx : Passes CX X E) :
    OpR X (binaryOp op) (rBinO C sp E) := by
  intro pins s σ H x y v u Q I rx ry h
  obtain ⟨a, dx, fs, b, dy, gs, rfl, rfl, ha, hb', q⟩ := h
  cases (show v = Value.ref a from rx)
  cases (show u = Value.ref b from ry)
  obtain ⟨od, J⟩ := Inv.inst I ha
  obtain ⟨oe, J'⟩ := Inv.inst I hb'
  obtain ⟨mm, hF⟩ := I.fr
  refine PySem.W.binop_K hF I.ok.mod.kin J J'.type sf m.at_ m.fn ?_
  refine wpAny_mono (run_in (us := [.ref a, .ref b]) (vs := [.ref a, .ref b]) F hr hb .nil hx I.env0 I (.cons rfl (.cons rfl .nil)) (by rw [List.append_nil]; exact q)) (fun z s' e => ?_) fun _ _ e => e
  obtain ⟨z', H', I', rz, qz⟩ := e
  exact SlX.cmpback rz ⟨z', H', I', rz, qz⟩

/-- y in x, y not in x -/
def rInO (C : Addr) (neg : Bool) (sp : Sp) (E : XK) : R2 := fun y x H Q => ∃ a dx fs, x = .ref a ∧ H a = some (.ins C dx fs) ∧ sp [x, y] H (fun v H' => ∃ b, v = .bl b ∧ Q (.bl (if neg then !b else b)) H') E
theorem op_inO (m : Meth X.K C "__contains__" f) (F : FnOk X.prog X.w X.K X.mg X.base CX k f fd ps sp) (hr : Room k X.A) (hb : Binds X.K fd ps []) (hx : Passes CX X E) : OpR X (compareOp .In) (rInO C false sp E) := by
  intro pins s σ H y x u v Q I ry rx h
  obtain ⟨a, dx, fs, rfl, ha, q⟩ := h
  cases (show v = Value.ref a from rx)
  obtain ⟨od, J⟩ := Inv.inst I ha
  obtain ⟨mm, hF⟩ := I.fr
  refine PySem.W.in_K hF I.ok.mod.kin J m.at_ m.fn ?_
  refine wpAny_mono (run_in (us := [.ref a, u]) (vs := [.ref a, y]) F hr hb .nil hx I.env0 I (.cons rfl (.cons ry .nil)) (by rw [List.append_nil]; exact q)) (fun z s' e => ?_) fun _ _ e => e
  obtain ⟨z', H', I', rz, b, rfl, qz⟩ := e
  cases (show z = Value.bool b from rz)
  exact wpAny_truthy_bool ⟨.bl b, H', I', rfl, qz⟩
theorem op_notInO (m : Meth X.K C "__contains__" f) (F : FnOk X.prog X.w X.K X.mg X.base CX k f fd ps sp) (hr : Room k X.A) (hb : Binds X.K fd ps []) (hx : Passes CX X E) : OpR X (compareOp .NotIn) (rInO C true sp E) := by
  intro pins s σ H y x u v Q I ry rx h
  obtain ⟨a, dx, fs, rfl, ha, q⟩ := h
  cases (show v = Value.ref a from rx)
  obtain ⟨od, J⟩ := Inv.inst I ha
  obtain ⟨mm, hF⟩ := I.fr
  refine PySem.W.notIn_K hF I.ok.mod.kin J m.at_ m.fn ?_
  refine wpAny_mono (run_in (us := [.ref a, u]) (vs := [.ref a, y]) F hr hb .nil hx I.env0 I (.cons rfl (.cons ry .nil)) (by rw [List.append_nil]; exact q)) (fun z s' e => ?_) fun _ _ e => e
  obtain ⟨z', H', I', rz, b, rfl, qz⟩ := e
  cases (show z = Value.bool b from rz)
  exact wpAny_truthy_bool ⟨.bl (!b), H', I', rfl, qz⟩

/-- len(x) -/
def rLenO (C : Addr) (sp : Sp) (E : XK) : List V → Hp → VK → Prop := fun xs H Q => ∃ a dx fs, xs = [.ref a] ∧ H a = some (.ins C dx fs) ∧ sp xs H (fun v H' => ∃ n : Nat, v = .int n ∧ n < 2 ^ 62 ∧ Q v H') E
theorem call_lenO (m : Meth X.K C "__len__" f) (F : FnOk X.prog X.w X.K X.mg X.base CX k f fd ps sp) (hr : Room (k + 1) X.A) (hb : Binds X.K fd ps []) (hx : Passes CX X E) : CallR X (.builtin "len") (rLenO C sp E) := by
  intro pins s σ H xs us Q I r h
  obtain ⟨a, dx, fs, rfl, ha, q⟩ := h
  rw [Vals.ref1 r]
  obtain ⟨od, J⟩ := Inv.inst I ha
  obtain ⟨mm, hF⟩ := I.fr
  refine PySem.W.len_K hF I.ok.mod.kin J m.at_ m.fn ?_
  refine wpAny_mono (run_in (us := [.ref a]) (vs := [.ref a]) F hr.in1 hb .nil hx I.env0.in1 I (.cons rfl .nil) (by rw [List.append_nil]; exact q)) (fun z s' e => ?_) fun _ _ e => e
  obtain ⟨z', H', I', rz, n, rfl, hn, qz⟩ := e
  obtain ⟨t, rfl⟩ := (show ∃ t, z = Value.int n t from rz)
  exact ⟨⟨by omega, by omega⟩, .int n, H', I'.tok _, ⟨_, rfl⟩, qz⟩

/-- x[y] -/
def rGetO (C : Addr) (sp : Sp) (E : XK) : R2 := fun x y H Q => ∃ a dx fs, x = .ref a ∧ H a = some (.ins C dx fs) ∧ sp [x, y] H Q E
theorem pe_getO {o i : Expr} {to ti : TE} {pos : Pos} (m : Meth X.K C "__getitem__" f) (fn : PySem.W.fnIn X.K f = true) (F : FnOk X.prog X.w X.K X.mg X.base CX k f fd ps sp) (hr : Room (k + 1) X.A) (hb : Binds X.K fd ps []) (hx : Passes CX X E) (ho : PE X o to) (hi : PE X i ti)
    (hsl : ∀ x y, subscripted i true x y = runValue (.builtin "lifetime.subscript" ⟨[x, y], []⟩) := by intro _ _; with_unfolding_all rfl) : PE X (.Subscript o i pos) (tOp (rGetO C sp E) to ti) := by
  refine ⟨fun pins s σ H Q I h => ?_⟩
  refine Subscript_ (binT ho hi I h fun v u s2 x y H2 I2 rx ry q => ?_)
  obtain ⟨a, dx, fs, rfl, ha, q⟩ := q
  cases (show v = Value.ref a from rx)
  obtain ⟨od, J⟩ := Inv.inst I2 ha
  obtain ⟨mm, hF⟩ := I2.fr
  refine PySem.W.sub_K hF I2.ok.mod.kin J m.at_ fn m.fn ?_ (hsl _ _)
  exact run_in (us := [.ref a, u]) (vs := [.ref a, y]) F hr.in1 hb .nil hx I2.env0.in1 I2 (.cons rfl (.cons ry .nil)) (by rw [List.append_nil]; exact q)
end
end Mf

/-! Sets of texts built by set(xs), and sorted(..) of them. -/
namespace Mf
open PySem PySem.Spec PyProof.Rows L2 PySem.Froz

section
variable {P : Program} {w : World} {A : Around} {E : Value → Shared → Prop} {s : Shared} {a : Addr} {l : List Str} {k : Str} {u : Tok}

/-- a set of the texts l (each once) at a -/
def TxR (P : Program) (w : World) (h : Heap) (a : Addr) (l : List Str) : Prop :=
  (∃ D : SD, h.get? a = some (sObj "set" D) ∧ TxOk P w D l ∧ Ris D.2.2.place.toList ∧ (w.params.followText "set-order" = true ∨ D.2.2.led = true)) ∧ l.Nodup ∧ l.length < scanBound

theorem TxR.keep {h h' : Heap} (R : TxR P w h a l) (q : ∀ o, h.get? a = some o → h'.get? a = some o) : TxR P w h' a l :=
  let ⟨⟨D, e, z⟩, n, f⟩ := R
  ⟨⟨D, q _ e, z⟩, n, f⟩

theorem add_order (D : SD) (x : Int) (v : Value) (r : Ris D.2.2.place.toList) : Ris (addTx x v D).2.2.place.toList ∧ (addTx x v D).2.2.led = D.2.2.led := by
  obtain ⟨es, ep, t⟩ := D
  have r1 := layNew_ris t es x v r
  have l1 := layNew_led t es x v
  show Ris (tailTx ep (layNew t es x v).1 (if (layNew t es x v).2.1.plain = true then { (layNew t es x v).2.1 with plain := false } else (layNew t es x v).2.1) (layNew t es x v).2.2.1).2.2.place.toList ∧ (tailTx ep (layNew t es x v).1 (if (layNew t es x v).2.1.plain = true then { (layNew t es x v).2.1 with plain := false } else (layNew t es x v).2.1) (layNew t es x v).2.2.1).2.2.led = t.led
  generalize layNew t es x v = Z at r1 l1 ⊢
  obtain ⟨es1, t1, wd, g⟩ := Z
  dsimp only at r1 l1 ⊢
  have r2 : Ris (if t1.plain = true then { t1 with plain := false } else t1).place.toList := by split <;> exact r1
  have l2 : (if t1.plain = true then { t1 with plain := false } else t1).led = t.led := by split <;> exact l1
  generalize (if t1.plain = true then { t1 with plain := false } else t1) = t2 at r2 l2 ⊢
  unfold tailTx
  split
  · exact ⟨relayAll_ris t2 es1 _, (relayAll_led t2 es1 _).trans l2⟩
  · exact ⟨r2, l2⟩

theorem add_dup {Q : Bool → Shared → Prop} {D : SD} (ho : s.heap.get? a = some (sObj "set" D)) (F : TxOk P w D l) (hk : k ∈ l) (hb : l.length < scanBound) (h : Q false s) : wpAny (model P w) A (setAddHashed a (.str k u) (hashStr w k)) Q E s := by
  obtain ⟨es, ep, t⟩ := D
  have dd : (sObj "set" (es, ep, t)).data = .set es ep t := rfl
  have ff : t.fits es.size = true := F.fit
  have el : ElemsOf (strKind P w) es.toList := F.el
  have zz : es.size = l.length := F.sz
  have b0 : es.size < scanBound := by omega
  have key : (strKind P w).is k (.str k u) = true := is_str k u
  unfold setAddHashed setAddHashedIn
  refine wpAny_holding (wpAny_bind (wpAny_setState_of ho dd ff ?_))
  dsimp only
  rw [byScan_of rfl b0 el]
  simp only [↓reduceIte]
  unfold setAddByScan
  refine wpAny_bind ?_
  refine wpAny_bind (wpAny_rule ?_)
  refine wpAny_bind (wpAny_setScan_of (knd := strKind P w) (k := k) key ho dd ff el ?_)
  cases hr : List.findIdx? (fun e => (strKind P w).is k e.2) es.toList with
  | some j => exact wpAny_pure (wpAny_pure h)
  | none =>
    obtain ⟨e, he, q⟩ := (F.mem k).mp hk
    have c := List.findIdx?_eq_none_iff.mp hr e he
    rw [q] at c
    cases c

theorem txr_add {Q : Bool → Shared → Prop} (R : TxR P w s.heap a l) (room : l.length + 1 < scanBound)
    (hQ : ∀ (b : Bool) h' l', Heap.SameBut a s.heap h' → TxR P w h' a l' → (∀ z, z ∈ l' ↔ z ∈ l ∨ z = k) → l'.length ≤ l.length + 1 → Q b { s with heap := h' }) :
    wpAny (model P w) A (setAddHashed a (.str k u) (hashStr w k)) Q E s := by
  obtain ⟨⟨D, ho, F, r, fl⟩, nd, few⟩ := id R
  by_cases hk : k ∈ l
  · refine add_dup ho F hk few ?_
    exact hQ false s.heap l (Heap.SameBut.refl a s.heap) R (fun z => ⟨Or.inl, fun q => q.elim id fun e => e ▸ hk⟩) (Nat.le_succ _)
  · refine add_x ho F hk room ?_
    have o := add_order D (hashStr w k) (.str k u) r
    refine hQ true _ (k :: l) (Heap.SameBut.update s.heap a _) ⟨⟨_, get_upd _ ho rfl, add_ok u F, o.1, fl.imp id fun z => o.2.trans z⟩, List.nodup_cons.mpr ⟨hk, nd⟩, room⟩ (fun z => ?_) (Nat.le_refl _)
    rw [List.mem_cons]
    exact Or.comm

theorem txr_new {h : Heap} (e : h.get? a = some { cls := .type "set", dict := none, data := .set #[] 0 (.fresh 0 0 (!w.params.followText "set-order")) }) : TxR P w h a [] := by
  refine ⟨⟨(#[], 0, .fresh 0 0 (!w.params.followText "set-order")), e, TxOk.nil rfl, List.Pairwise.nil, ?_⟩, List.nodup_nil, by decide⟩
  show _ ∨ (!w.params.followText "set-order") = true
  cases w.params.followText "set-order"
  · exact .inr rfl
  · exact .inl rfl

/-- set.update's turns over texts -/
theorem loop_txt {I : Addr} {fp wr : List Addr} {G : Array GenState → Array GenState → Prop} {n : Nat} {Pv : Nat → Value → Prop} {St : Nat → Shared → Prop} {R : Result → Shared → Prop}
    (W : WalksS P w A.in1 I fp wr G n Pv St) (S : Addr) (nS : S ∉ fp) (xs : List Str) (hn : n = xs.length) (room : n + 1 < scanBound) (val : ∀ i v, Pv i v → ∃ x t, xs[i]? = some x ∧ v = .str x t) :
    ∀ (k i : Nat) (s : Shared), n - i = k → i ≤ n → St i s → (∃ l, TxR P w s.heap S l ∧ (∀ z, z ∈ l ↔ z ∈ xs.take i) ∧ l.length ≤ i) →
      (∀ s' l, Moved (S :: wr) G s s' → TxR P w s'.heap S l → (∀ z, z ∈ l ↔ z ∈ xs) → R (.ok (.ret .none)) s') →
      codeAny (model P w) A (.builtin "set.update.loop" ⟨[.ref S, .ref I], []⟩) R s := by
  have sw : S ∉ wr := fun q => nS (W.sub _ q)
  have sub : ∀ b ∈ wr, b ∈ S :: wr := fun b q => List.mem_cons_of_mem _ q
  intro k
  induction k with
  | zero =>
    rintro i s hk hi hst ⟨l, hS, hm, _⟩ hR
    obtain rfl : i = n := by omega
    refine codeAny_builtin F.entry_set_update_loop ?_
    rw [Around.under_plainId F.plain_set_update_loop _]
    show wpAny _ A.in1 (pyNext (.ref I) >>= _) _ _ s
    refine wpAny_bind (W.done s _ _ hst fun s' mv => ?_)
    show wpAny _ A.in1 (ret Value.none) _ _ s'
    refine wpAny_pure (hR s' l (mv.mono sub) (hS.keep fun o e => mv.heap S o sw e) fun z => ?_)
    rw [hm z, hn, List.take_length]
  | succ k ih =>
    rintro i s hk hi hst ⟨l, hS, hm, hle⟩ hR
    have lt : i < n := by omega
    refine codeAny_builtin F.entry_set_update_loop ?_
    rw [Around.under_plainId F.plain_set_update_loop _]
    show wpAny _ A.in1 (pyNext (.ref I) >>= _) _ _ s
    refine wpAny_bind (W.item i s _ _ lt hst fun v s' pv' hst' mv => ?_)
    obtain ⟨x, t, ex, rfl⟩ := val i v pv'
    have hS' : TxR P w s'.heap S l := hS.keep fun o e => mv.heap S o sw e
    show wpAny _ A.in1 (holding [Value.str x t] (setAdd S (.str x t)) >>= _) _ _ s'
    refine wpAny_bind (wpAny_holding ?_)
    unfold setAdd
    refine wpAny_holding (wpAny_bind ((strKind P w).pyHash (is_str x t) ?_))
    refine txr_add (s := { s' with toks := s'.toks + 1 }) hS' (by omega) fun b h' l' same R' m' le' => ?_
    have tk : xs.take (i + 1) = xs.take i ++ [x] := by rw [List.take_add_one, ex]; rfl
    refine wpAny_pure ⟨plainId_quiet F.plain_set_update_loop _, ih (i + 1) _ (by omega) lt (W.frame _ s' _ _ hst' (Nat.le_add_right _ _) fun b hb o e => ?_) ⟨l', R', fun z => ?_, by omega⟩ fun s'' l2 mv2 R2 m2 => ?_⟩
    · rw [same.2 b (fun q : b = S => nS (q ▸ hb))]
      exact e
    · rw [m' z, hm z, tk, List.mem_append, List.mem_singleton]
    · refine hR s'' l2 (Moved.trans W.gtrans ((mv.mono sub).then_heap (Nat.le_add_right _ _) fun b o hb e => ?_) mv2) R2 m2
      rw [same.2 b (fun q : b = S => hb (q ▸ List.mem_cons_self))]
      exact e

abbrev set0 (w : World) : Obj := { cls := .type "set", dict := none, data := .set #[] 0 (.fresh 0 0 (!w.params.followText "set-order")) }

/-- how a builtin's tree ends, as a result R -/
def FinX (P : Program) (w : World) (B : Around) (R : Result → Shared → Prop) : Fin → Shared → Prop
  | .done f, s' => R (.ok f) s'
  | .again c', s' => c'.quiet = true ∧ codeAny (model P w) B c' R s'

/-- the set at S is filled from what stands at c -/
def Fills (P : Program) (w : World) (s : Shared) (c : Addr) (xs : List Str) : Prop :=
  ∀ (B : Around) (R : Result → Shared → Prop), B.handled = none →
    (∀ (h' : Heap) (tk : Nat) (l : List Str), TxR P w h' s.heap.objs.size l → (∀ z, z ∈ l ↔ z ∈ xs) → (∀ b o, s.heap.get? b = some o → h'.get? b = some o) → R (.ok (.ret .none)) { s with heap := h', toks := tk }) →
    wpAny (model P w) B.in1 (Builtin.«set.__init__» ⟨[.ref s.heap.objs.size, .ref c], []⟩) (FinX P w B R) (fun e s' => R (.error e) s') { s with heap := s.heap.push (set0 w) }

theorem strs_val {us : List Value} {xs : List Str} (h : StrsAre us xs) : us.length = xs.length ∧ ∀ (i : Nat) (v : Value), us[i]? = some v → ∃ x t, xs[i]? = some x ∧ v = .str x t := by
  induction h with
  | nil => exact ⟨rfl, fun i v q => by simp at q⟩
  | cons x t h ih =>
    refine ⟨congrArg (· + 1) ih.1, fun i v q => ?_⟩
    cases i with
    | zero => exact ⟨x, t, rfl, (Option.some.inj q).symm⟩
    | succ i => exact ih.2 i v q

section
variable {items : Array Value} {xs : List Str} {c : Addr}
theorem fill_end {I : Addr} {R : Result → Shared → Prop} (hI : I = s.heap.objs.size + 1)
    (hR : ∀ (h' : Heap) (tk : Nat) (l : List Str), TxR P w h' s.heap.objs.size l → (∀ z, z ∈ l ↔ z ∈ xs) → (∀ b o, s.heap.get? b = some o → h'.get? b = some o) → R (.ok (.ret .none)) { s with heap := h', toks := tk })
    {h0 : Heap} (k0 : ∀ b o, s.heap.get? b = some o → h0.get? b = some o) {s' : Shared} {l : List Str} (mv : Moved [s.heap.objs.size, I] (fun a b => b = a) { s with heap := h0 } s') (T : TxR P w s'.heap s.heap.objs.size l) (m : ∀ z, z ∈ l ↔ z ∈ xs) : R (.ok (.ret .none)) s' := by
  obtain ⟨h', g2, d2, t2, o2⟩ := s'
  have e1 : g2 = s.gens := mv.gens
  have e2 : d2 = s.drawn := mv.drawn
  have e3 : o2 = s.os := mv.os
  subst e1 e2 e3
  refine hR h' t2 l T m fun b o e => mv.heap b o (fun z => ?_) (k0 b o e)
  have lt : b < s.heap.objs.size := Heap.lt_size e
  rcases List.mem_cons.mp z with z | z
  · exact absurd z (Nat.ne_of_lt lt)
  · exact absurd ((List.mem_singleton.mp z).trans hI) (Nat.ne_of_lt (Nat.lt_succ_of_lt lt))

set_option maxHeartbeats 3200000 in
theorem fills_list (hl : s.heap.IsList c items) (hit : StrsAre items.toList xs) (room : xs.length + 1 < scanBound) : Fills P w s c xs := by
  intro B R hh hR
  obtain ⟨len, val⟩ := strs_val hit
  rw [Array.length_toList] at len
  obtain ⟨⟨k, dd, da, sl⟩, hob, hk, n, hd⟩ := hl
  simp only at hk hd
  subst hk hd
  have hob1 : (s.heap.push (set0 w)).get? c = some { cls := .type "list", dict := dd, data := .seq items n, slots := sl } := Heap.get?_push_of_some _ hob
  have f1 := F.sub_list_set
  have f2 := F.sub_list_frozenset
  have f3 : (Value.type "list" == Value.type "dict") = false := by decide
  have isl : (s.heap.push (set0 w)).IsList c items := ⟨_, hob1, rfl, n, rfl⟩
  unfold Builtin.«set.__init__» noKeywords Builtin.Frozenset.updateFrom
  generalize gq : pyIter = PI
  wp_walk
  subst gq
  refine wpAny_pyIter_list isl ?_
  refine wpAny_bind (wpAny_runValue ?_)
  have h3 : B.in1.in1.handled = none := by simp [hh]
  have lt : c < s.heap.objs.size := Heap.lt_size hob
  have z1 : (s.heap.push (set0 w)).objs.size = s.heap.objs.size + 1 := Heap.size_push ..
  have nI : c ≠ (s.heap.push (set0 w)).objs.size := by rw [z1]; exact Nat.ne_of_lt (Nat.lt_succ_of_lt lt)
  have nS : s.heap.objs.size ∉ [(s.heap.push (set0 w)).objs.size, c] := by
    rw [z1]
    simp only [List.mem_cons, List.not_mem_nil, or_false, not_or]
    exact ⟨Nat.ne_of_lt (Nat.lt_succ_self _), Nat.ne_of_gt lt⟩
  have get0 : (s.heap.push (set0 w)).get? s.heap.objs.size = some (set0 w) := Heap.get?_push_size _ rfl
  refine loop_txt ((Walks.list h3 _ c nI items).toS) s.heap.objs.size nS xs len (by omega) (fun i v q => val i v (by rw [Array.getElem?_toList]; exact q)) (items.size - 0) 0 _ (by omega) (Nat.zero_le _)
    ⟨⟨_, Heap.get?_push_size _ rfl, rfl, rfl⟩, isl.push _⟩ ⟨[], txr_new (Heap.get?_push_of_some _ get0), fun z => by simp, Nat.le_refl 0⟩ fun s' l mv T m => ?_
  have q := fill_end (R := R) z1 hR (fun b o e => Heap.get?_push_of_some _ (Heap.get?_push_of_some _ e)) mv T m
  show wpAny _ _ _ _ _ _
  refine wpAny_pure ?_
  show wpAny _ _ (ret Value.none) _ _ _
  exact wpAny_pure q
set_option maxHeartbeats 3200000 in
theorem fills_tuple (hl : s.heap.IsTuple c items) (hit : StrsAre items.toList xs) (room : xs.length + 1 < scanBound) : Fills P w s c xs := by
  intro B R hh hR
  obtain ⟨len, val⟩ := strs_val hit
  rw [Array.length_toList] at len
  obtain ⟨⟨k, dd, da, sl⟩, hob, hk, n, hd⟩ := hl
  simp only at hk hd
  subst hk hd
  have hob1 : (s.heap.push (set0 w)).get? c = some { cls := .type "tuple", dict := dd, data := .seq items n, slots := sl } := Heap.get?_push_of_some _ hob
  have f1 := F.sub_tuple_set
  have f2 := F.sub_tuple_frozenset
  have f3 : (Value.type "tuple" == Value.type "dict") = false := by decide
  have isl : (s.heap.push (set0 w)).IsTuple c items := ⟨_, hob1, rfl, n, rfl⟩
  unfold Builtin.«set.__init__» noKeywords Builtin.Frozenset.updateFrom
  generalize gq : pyIter = PI
  wp_walk
  subst gq
  refine wpAny_pyIter_tuple isl ?_
  refine wpAny_bind (wpAny_runValue ?_)
  have h3 : B.in1.in1.handled = none := by simp [hh]
  have lt : c < s.heap.objs.size := Heap.lt_size hob
  have z1 : (s.heap.push (set0 w)).objs.size = s.heap.objs.size + 1 := Heap.size_push ..
  have nI : c ≠ (s.heap.push (set0 w)).objs.size := by rw [z1]; exact Nat.ne_of_lt (Nat.lt_succ_of_lt lt)
  have nS : s.heap.objs.size ∉ [(s.heap.push (set0 w)).objs.size, c] := by
    rw [z1]
    simp only [List.mem_cons, List.not_mem_nil, or_false, not_or]
    exact ⟨Nat.ne_of_lt (Nat.lt_succ_self _), Nat.ne_of_gt lt⟩
  have get0 : (s.heap.push (set0 w)).get? s.heap.objs.size = some (set0 w) := Heap.get?_push_size _ rfl
  refine loop_txt ((Walks.tuple h3 _ c nI items).toS) s.heap.objs.size nS xs len (by omega) (fun i v q => val i v (by rw [Array.getElem?_toList]; exact q)) (items.size - 0) 0 _ (by omega) (Nat.zero_le _)
    ⟨⟨_, Heap.get?_push_size _ rfl, rfl, rfl⟩, isl.push _⟩ ⟨[], txr_new (Heap.get?_push_of_some _ get0), fun z => by simp, Nat.le_refl 0⟩ fun s' l mv T m => ?_
  have q := fill_end (R := R) z1 hR (fun b o e => Heap.get?_push_of_some _ (Heap.get?_push_of_some _ e)) mv T m
  show wpAny _ _ _ _ _ _
  refine wpAny_pure ?_
  show wpAny _ _ (ret Value.none) _ _ _
  exact wpAny_pure q

set_option maxHeartbeats 3200000 in
/-- set(xs), xs a list or tuple of texts -/
theorem set_call {Q : Value → Shared → Prop} (hh : A.handled = none) (fill : Fills P w s c xs)
    (h : ∀ (h' : Heap) (tk : Nat) (l : List Str), TxR P w h' s.heap.objs.size l → (∀ z, z ∈ l ↔ z ∈ xs) → (∀ b o, s.heap.get? b = some o → h'.get? b = some o) → Q (.ref s.heap.objs.size) { s with heap := h', toks := tk }) :
    wpAny (model P w) A (call (.type "set") [.ref c]) Q E s := by
  obtain ⟨c0, tl, hmro⟩ := F.called_set.mro
  have hmade := F.called_set.made
  have hsub := F.called_set.sub
  refine wpAny_call (codeAny_of_tree ?_)
  show wpAny _ _ (callAny (.type "set") _) _ _ _
  refine wpAny_pure ⟨Code.quiet_builtin _ (by decide +kernel), codeAny_builtin F.entry_type_call ?_⟩
  rw [Around.under_plain (weight_type_call_type "set" [.ref c] []) rfl]
  have h1 := F.called_set.notType
  have h2 := F.called_set.canCreate
  have h3 := F.typeCall_set_1 (.ref c)
  repeat (any_goals (first | assumption | wp_step))
  refine codeAny_mono (code_set_led1 (.ref c) (E := E) (Q₁ := fun obj s₁ => obj = .ref s.heap.objs.size ∧ s₁ = { s with heap := s.heap.push (set0 w) }) ⟨rfl, rfl⟩) fun r s1 hr => ?_
  rcases r with e | fl
  · exact hr
  rcases fl with _ | _ | _ | obj
  all_goals try exact hr.elim
  obtain ⟨rfl, rfl⟩ := hr
  have hS : (s.heap.push (set0 w)).get? s.heap.objs.size = some (set0 w) := Heap.get?_push_size _ rfl
  have tS : Shared.TypeIs { s with heap := s.heap.push (set0 w) } (.ref s.heap.objs.size) "set" := ⟨_, hS, rfl⟩
  have i1 := F.called_set.init.lookup
  have i2 := F.called_set.init.bind (.ref s.heap.objs.size)
  repeat (any_goals (first | assumption | wp_step))
  refine codeAny_mono (codeAny_call_builtin (R := wants (fun r s₂ => r = .none ∧ ∃ h' tk l, s₂ = { s with heap := h', toks := tk } ∧ TxR P w h' s.heap.objs.size l ∧ (∀ z, z ∈ l ↔ z ∈ xs) ∧ (∀ b o, s.heap.get? b = some o → h'.get? b = some o)) E)
    F.called_set.init.plain F.entry_set_init (check_set_init_1 tS ?_)) fun r2 s2 h2 => ?_
  · refine wpAny_mono (fill A.in1 (wants (fun r s₂ => r = .none ∧ ∃ h' tk l, s₂ = { s with heap := h', toks := tk } ∧ TxR P w h' s.heap.objs.size l ∧ (∀ z, z ∈ l ↔ z ∈ xs) ∧ (∀ b o, s.heap.get? b = some o → h'.get? b = some o)) E) (by simp [hh])
      fun h' tk l T m k => ⟨rfl, h', tk, l, rfl, T, m, k⟩) (fun fin s' q => ?_) fun _ _ q => q
    cases fin <;> exact q
  · rcases r2 with e | fl
    · exact h2
    rcases fl with _ | _ | _ | obj
    all_goals try exact h2.elim
    obtain ⟨rfl, h', tk, l, rfl, R, m, k⟩ := h2
    repeat (any_goals (first | assumption | wp_step))
    exact h _ _ _ R m k

theorem strs_get {l : List Str} : ∀ {vs : List Value}, (∀ v ∈ vs, ∃ x t, v = .str x t) → ∃ ys, StrsAre vs ys
  | [], _ => ⟨[], .nil⟩
  | v :: vs, h => by
    obtain ⟨x, t, rfl⟩ := h v List.mem_cons_self
    obtain ⟨ys, q⟩ := strs_get (l := l) fun u hu => h u (List.mem_cons_of_mem _ hu)
    exact ⟨x :: ys, .cons x t q⟩
theorem strs_mem {x : Str} : ∀ {vs : List Value} {ys : List Str}, StrsAre vs ys → (x ∈ ys ↔ ∃ t, Value.str x t ∈ vs)
  | _, _, .nil => by simp
  | _, _, .cons y t h => by
    rw [List.mem_cons, strs_mem h]
    constructor
    · rintro (rfl | ⟨u, q⟩)
      · exact ⟨t, List.mem_cons_self⟩
      · exact ⟨u, List.mem_cons_of_mem _ q⟩
    · rintro ⟨u, q⟩
      rcases List.mem_cons.mp q with e | q
      · injection e with e _
        exact .inl e
      · exact .inr ⟨u, q⟩

/-- sorted(a set of texts) -/
theorem sorted_txr {a : Addr} {l : List Str} {Q : Value → Shared → Prop} (T : TxR P w s.heap a l) (hh : A.handled = none)
    (hQ : ∀ s' p (out : Array Value) (c : Nat) (ys : List Str), (∀ b o, s.heap.get? b = some o → s'.heap.get? b = some o) → s'.gens = s.gens → s'.os = s.os → s.heap.objs.size ≤ p →
      s'.heap.get? p = some (seqObj "list" out c) → StrsAre out.toList ys → sortedS ys = true → (∀ z, z ∈ ys ↔ z ∈ l) → ys.length = l.length → Q (.ref p) s') :
    wpAny (model P w) A (call (.builtin "sorted") [.ref a]) Q E s := by
  obtain ⟨⟨⟨es, ep, t⟩, ho, F, r, fl⟩, nd, few⟩ := T
  have zz : es.size = l.length := F.sz
  refine Calls.call_function_entry kind_sorted plain_sorted entry_sorted (args_sorted1 _) ?_
  unfold Builtin.«sorted»
  refine wpAny_bind (m := checkCount "sorted" 1 1 _) (wpAny_pure ?_)
  refine wpAny_bind (collect_set (A := A.in1) hh ⟨_, ho, rfl, rfl⟩ F.fit (by rw [zz]; exact few) r fl fun s1 vs k1 hz g1 o1 pm => ?_)
  have all : ∀ v ∈ vs, ∃ x t, v = .str x t := fun v hv => by
    obtain ⟨e, he, rfl⟩ := List.mem_map.mp (pm.mem_iff.mp hv)
    obtain ⟨⟨x, hx, _⟩, _⟩ := F.el e he
    obtain ⟨t, q⟩ := Value.isStrOf_shape (x := x) (v := e.2) hx
    exact ⟨x, t, q⟩
  obtain ⟨ws, hS⟩ := strs_get (l := l) all
  have len := (strs_val hS).1
  have lvs : vs.length = l.length := by rw [pm.length_eq, List.length_map, Array.length_toList]; exact zz
  have mem : ∀ z, z ∈ ws ↔ z ∈ l := fun z => by
    rw [strs_mem hS, F.mem z]
    constructor
    · rintro ⟨t, q⟩
      obtain ⟨e, he, e2⟩ := List.mem_map.mp (pm.mem_iff.mp q)
      exact ⟨e, he, by rw [e2]; exact is_str z t⟩
    · rintro ⟨e, he, q⟩
      obtain ⟨t, e2⟩ := Value.isStrOf_shape (x := z) (v := e.2) q
      exact ⟨t, pm.mem_iff.mpr (List.mem_map.mpr ⟨e, he, e2⟩)⟩
  have few2 : vs.length ≤ sizeLine := by rw [lvs]; exact fits_of_scanBound few
  refine wpAny_bind (wpAny_newList ?_ few2)
  have hoL : (s1.heap.push (seqObj "list" vs.toArray 0)).get? s1.heap.objs.size = some (seqObj "list" vs.toArray 0) := Heap.get?_push_size _ rfl
  refine wpAny_bind (wpAny_holding (wpAny_call_entry slot_list_sort ⟨_, hoL, rfl⟩ entry_list_sort (list_sort_treeKAny strKind_oneLt hoL hS.keysOf (fun v₁ v₂ rest e => keyKind_strs (by rw [← e]; exact hS)) few2 fun st' hp hs => ⟨_, rfl, ?_⟩) (args_list_sort _)))
  obtain ⟨ys, g1', g2, g3⟩ := sorted_out_str hS hp hs
  obtain ⟨c, hc⟩ := sortedHeap_at (vs := vs) (out := (arrOf st').map (·.2)) hoL
  refine wpAny_pure ⟨_, rfl, hQ _ s1.heap.objs.size _ c ys (fun b u e => ?_) g1 o1 hz hc g1' g3 (fun z => by rw [g2.mem_iff, mem z]) (by rw [g2.length_eq, ← len, lvs])⟩
  have q := k1 b u e
  have lt := Heap.lt_size q
  show (sortedHeap (s1.heap.push (seqObj "list" vs.toArray 0)) s1.heap.objs.size vs _).get? b = some u
  rw [sortedHeap_old (Nat.ne_of_lt lt) (by rw [size_push']; exact Nat.lt_succ_of_lt lt)]
  exact Heap.get?_push_of_some _ q
end
end

/-! ### over the hand layer -/
section
variable {X : Cx}
def TxO (P : Program) (w : World) (a : Addr) (l : List Str) : HO := .ext fun h => TxR P w h a l
theorem txo_new {P : Program} {w : World} {H : Hp} {h : Heap} {a : Addr} {l : List Str} (R : TxR P w h a l) : ObjOk P w H h a (TxO P w a l) :=
  ⟨R, let ⟨⟨_, e, _⟩, _⟩ := R; ⟨_, e⟩, fun _ _ q k => q.keep k⟩

/-- set(xs) of a list or tuple of texts -/
def rSetS (K : PySem.W.Frag) (P : Program) (w : World) : List V → Hp → VK → Prop := fun vs H Q => ∃ (c : Addr) (xs : List Str), vs = [.ref c] ∧ (SqL K H c (xs.map V.str) ∨ SqT K H c (xs.map V.str)) ∧ xs.length < 4000 ∧
  ∀ (p : Addr) (l : List Str), H p = none → l.Nodup → (∀ z, z ∈ l ↔ z ∈ xs) → Q (.ref p) (upd H p (TxO P w p l))
theorem cr_setS (hc : X.calm = true) : CallR X (.type "set") (rSetS X.K X.prog X.w) := by
  intro pins s σ H vs us Q I r h
  obtain ⟨c, xs, rfl, hs, few, q⟩ := h
  rw [Vals.ref1 r]
  have hn : H s.heap.objs.size = none := I.hok.fresh (Nat.le_refl _)
  have fill : Fills X.prog X.w s c xs := by
    rcases hs with hs | hs
    · obtain ⟨its, rv, pl, hz⟩ := I.list hs
      exact fills_list pl.isList (by simpa using rv.strs) (by unfold scanBound; omega)
    · obtain ⟨its, rv, pl, hz⟩ := I.tuple hs
      exact fills_tuple pl (by simpa using rv.strs) (by unfold scanBound; omega)
  refine set_call (I.ok.hd hc) fill fun h' tk l T m k => ?_
  exact ⟨.ref s.heap.objs.size, _, I.laid (t' := tk) k (Nat.le_refl _) (txo_new T), rfl, q _ l hn T.2.1 m⟩

/-- sorted(a set of texts) -/
def rSortedX (P : Program) (w : World) : List V → Hp → VK → Prop := fun vs H Q => ∃ (a : Addr) (l : List Str), vs = [.ref a] ∧ H a = some (TxO P w a l) ∧
  ∀ (ys : List Str) (p : Addr), sortedS ys = true → (∀ z, z ∈ ys ↔ z ∈ l) → ys.length = l.length → H p = none → Q (.ref p) (upd H p (.lst (ys.map V.str)))
theorem cr_sortedX (hc : X.calm = true) : CallR X (.builtin "sorted") (rSortedX X.prog X.w) := by
  intro pins s σ H vs us Q I r h
  obtain ⟨a, l, rfl, ha, q⟩ := h
  have T : TxR X.prog X.w s.heap a l := (I.hok a _ ha).1
  rw [Vals.ref1 r]
  refine sorted_txr T (I.ok.hd hc) fun s' p out c ys k g o hp hg hS so m len => ?_
  have hn : H p = none := I.hok.fresh hp
  have few : (ys.map V.str).length ≤ sizeLine := by rw [List.length_map, len]; exact fits_of_scanBound T.2.2
  have J : Inv X pins σ (upd H p (.lst (ys.map V.str))) { s with heap := s'.heap, gens := s'.gens, drawn := s'.drawn, toks := s'.toks } :=
    I.call (ch := []) (Un.laid k hp hn) (I.hok.laid k hp ⟨few, out.toList, c, vals_of_strs hS, hg⟩) (by rw [g]; exact I.bare) fun _ z => nomatch z
  have e : s' = { s with heap := s'.heap, gens := s'.gens, drawn := s'.drawn, toks := s'.toks } := by
    rcases s' with ⟨_, _, _, _, _⟩
    cases o
    rfl
  rw [e]
  exact ⟨.ref p, _, J, rfl, q ys p so m len hn⟩
end
end Mf
/-! Sorted texts: the order, and that a sorted row without repeats is the only one of its members. -/
namespace Mf
open PySem L2
theorem lt_irr : ∀ l : List Nat, Spec.ltCps l l = false
  | [] => rfl
  | a :: r => by
    show (decide (a < a) || (a == a && Spec.ltCps r r)) = false
    rw [lt_irr r]; simp
theorem lt_asym : ∀ l m : List Nat, Spec.ltCps l m = true → Spec.ltCps m l = false
  | [], [], h => rfl
  | [], _ :: _, _ => rfl
  | _ :: _, [], h => by cases h
  | a :: r, b :: t, h => by
    have h : (decide (a < b) || (a == b && Spec.ltCps r t)) = true := h
    show (decide (b < a) || (b == a && Spec.ltCps t r)) = false
    simp only [Bool.or_eq_true, decide_eq_true_eq, Bool.and_eq_true, beq_iff_eq] at h
    simp only [Bool.or_eq_false_iff, decide_eq_false_iff_not, Bool.and_eq_false_iff, beq_eq_false_iff_ne]
    rcases h with h2 | ⟨rfl, h2⟩
    · exact ⟨by omega, .inl (by omega)⟩
    · exact ⟨by omega, .inr (lt_asym r t h2)⟩
theorem lt_tri : ∀ l m : List Nat, Spec.ltCps l m = false → Spec.ltCps m l = false → l = m
  | [], [], _, _ => rfl
  | [], _ :: _, h, _ => by cases h
  | _ :: _, [], _, h => by cases h
  | a :: r, b :: t, h, g => by
    have h : (decide (a < b) || (a == b && Spec.ltCps r t)) = false := h
    have g : (decide (b < a) || (b == a && Spec.ltCps t r)) = false := g
    simp only [Bool.or_eq_false_iff, decide_eq_false_iff_not, Bool.and_eq_false_iff, beq_eq_false_iff_ne] at h g
    obtain rfl : a = b := by omega
    rw [lt_tri r t (h.2.resolve_left fun n => n rfl) (g.2.resolve_left fun n => n rfl)]
theorem lt_trans : ∀ l m n : List Nat, Spec.ltCps l m = true → Spec.ltCps m n = true → Spec.ltCps l n = true
  | [], [], _, h, _ => by cases h
  | [], _ :: _, [], _, h => by cases h
  | [], _ :: _, _ :: _, _, _ => rfl
  | _ :: _, [], _, h, _ => by cases h
  | _ :: _, _ :: _, [], _, h => by cases h
  | a :: r, b :: t, c :: u, h, g => by
    have h : (decide (a < b) || (a == b && Spec.ltCps r t)) = true := h
    have g : (decide (b < c) || (b == c && Spec.ltCps t u)) = true := g
    show (decide (a < c) || (a == c && Spec.ltCps r u)) = true
    simp only [Bool.or_eq_true, decide_eq_true_eq, Bool.and_eq_true, beq_iff_eq] at h g ⊢
    rcases h with h2 | ⟨rfl, h2⟩
    · rcases g with g2 | ⟨rfl, g2⟩
      · left; omega
      · left; exact h2
    · rcases g with g2 | ⟨rfl, g2⟩
      · left; exact g2
      · right; exact ⟨rfl, lt_trans r t u h2 g2⟩
def Lt (x y : Str) : Prop := Spec.ltCps x.cps.toList y.cps.toList = true
theorem Lt.ne {x y : Str} (h : Lt x y) : x ≠ y := fun e => by subst e; unfold Lt at h; rw [lt_irr] at h; cases h
theorem Lt.asymm {x y : Str} (h : Lt x y) : ¬ Lt y x := fun g => by unfold Lt at h g; rw [lt_asym _ _ h] at g; cases g
theorem Lt.trans {x y z : Str} (h : Lt x y) (g : Lt y z) : Lt x z := lt_trans _ _ _ h g
theorem not_lt {x y : Str} (h : Spec.ltCps y.cps.toList x.cps.toList = false) (n : x ≠ y) : Lt x y := by
  unfold Lt
  cases e : Spec.ltCps x.cps.toList y.cps.toList with
  | true => rfl
  | false => exact absurd (tl_inj (lt_tri _ _ e h)) n
/-- in order, each once -/
def Up (l : List Str) : Prop := l.Pairwise Lt
theorem Up.nd {l : List Str} (h : Up l) : l.Nodup := List.Pairwise.imp (fun h => h.ne) h
theorem rising_up : ∀ (l : List Str) (p : Str), PyProof.Rows.risingS p l = true → (p :: l).Nodup → Up (p :: l)
  | [], p, _, _ => List.pairwise_singleton _ _
  | x :: r, p, h, nd => by
    have h : (!Spec.ltCps x.cps.toList p.cps.toList && PyProof.Rows.risingS x r) = true := h
    obtain ⟨h1, h2⟩ := Bool.and_eq_true_iff.mp h
    obtain ⟨n1, n2⟩ := List.nodup_cons.mp nd
    have u := rising_up r x h2 n2
    have px : Lt p x := not_lt (by simpa using h1) fun e => n1 (e ▸ List.mem_cons_self)
    refine List.pairwise_cons.mpr ⟨fun y hy => ?_, u⟩
    rcases List.mem_cons.mp hy with rfl | hy
    · exact px
    · exact px.trans ((List.pairwise_cons.mp u).1 y hy)
theorem up_of {l : List Str} (h : PyProof.Rows.sortedS l = true) (nd : l.Nodup) : Up l := by
  cases l with
  | nil => exact List.Pairwise.nil
  | cons x r => exact rising_up r x h nd
theorem up_one : ∀ {xs ys : List Str}, Up xs → Up ys → (∀ z, z ∈ xs ↔ z ∈ ys) → xs = ys
  | [], [], _, _, _ => rfl
  | [], y :: _, _, _, h => absurd ((h y).mpr List.mem_cons_self) (by simp)
  | x :: _, [], _, _, h => absurd ((h x).mp List.mem_cons_self) (by simp)
  | x :: xs, y :: ys, u, v, h => by
    obtain ⟨u1, u2⟩ := List.pairwise_cons.mp u
    obtain ⟨v1, v2⟩ := List.pairwise_cons.mp v
    have e : x = y := by
      rcases List.mem_cons.mp ((h x).mp List.mem_cons_self) with e | m
      · exact e
      · rcases List.mem_cons.mp ((h y).mpr List.mem_cons_self) with e | m'
        · exact e.symm
        · exact absurd (u1 y m') (v1 x m).asymm
    subst e
    rw [up_one u2 v2 fun z => ?_]
    constructor
    · intro m
      rcases List.mem_cons.mp ((h z).mp (List.mem_cons_of_mem _ m)) with e | q
      · exact absurd e.symm (u1 z m).ne
      · exact q
    · intro m
      rcases List.mem_cons.mp ((h z).mpr (List.mem_cons_of_mem _ m)) with e | q
      · exact absurd e.symm (v1 z m).ne
      · exact q
theorem nodup_le {α : Type} [DecidableEq α] : ∀ {l m : List α}, l.Nodup → l ⊆ m → l.length ≤ m.length
  | [], _, _, _ => Nat.zero_le _
  | x :: l, m, nd, sub => by
    obtain ⟨n1, n2⟩ := List.nodup_cons.mp nd
    have hx : x ∈ m := sub List.mem_cons_self
    have ih := nodup_le (m := m.erase x) n2 fun y hy => (List.mem_erase_of_ne (by rintro rfl; exact n1 hy)).mpr (sub (List.mem_cons_of_mem _ hy))
    rw [List.length_erase_of_mem hx] at ih
    have := List.length_pos_of_mem hx
    rw [List.length_cons]
    omega
theorem nodup_len {α : Type} [DecidableEq α] : ∀ {ys l : List α}, l.Nodup → l ⊆ ys → ys.length = l.length → ys.Nodup
  | [], _, _, _, _ => List.nodup_nil
  | y :: ys, l, nd, sub, e => by
    have hy : y ∈ l := Classical.byContradiction fun n => by
      have q := nodup_le (m := ys) nd fun z hz => (List.mem_cons.mp (sub hz)).resolve_left (by rintro rfl; exact n hz)
      rw [List.length_cons] at e
      omega
    have ny : y ∉ ys := fun m => by
      have q := nodup_le (m := ys) nd fun z hz => by
        rcases List.mem_cons.mp (sub hz) with rfl | h
        · exact m
        · exact h
      rw [List.length_cons] at e
      omega
    refine List.nodup_cons.mpr ⟨ny, nodup_len (l := l.erase y) (nd.erase y) (fun z hz => ?_) ?_⟩
    · obtain ⟨h1, h2⟩ := (nd.mem_erase_iff).mp hz
      exact (List.mem_cons.mp (sub h2)).resolve_left h1
    · rw [List.length_erase_of_mem hy, ← e, List.length_cons]; rfl
theorem sum_len {ys : List Str} {B : Nat} (h : ∀ y ∈ ys, y.length ≤ B) : (ys.map (·.length)).sum ≤ ys.length * B := by
  induction ys with
  | nil => simp
  | cons y ys ih =>
    rw [List.map_cons, List.sum_cons, List.length_cons, Nat.succ_mul]
    have a := h y List.mem_cons_self
    have b := ih fun z hz => h z (List.mem_cons_of_mem _ hz)
    omega
theorem flat_strs (zs : List Str) : (zs.map V.str).all flatV = true := by rw [List.all_map]; exact List.all_eq_true.mpr fun _ _ => rfl

/-! ### data that are compared -/
theorem dpS {K : PySem.W.Frag} {H : Hp} : ∀ zs : List Str, DpAll K H (zs.map V.str) (zs.map PyData.str)
  | [] => .nil
  | z :: zs => .cons (.str z) (dpS zs)
theorem dpB {K : PySem.W.Frag} {H : Hp} : ∀ bs : List Bool, DpAll K H (bs.map V.bl) (bs.map PyData.bool)
  | [] => .nil
  | b :: bs => .cons (.bl b) (dpB bs)
theorem eqvB : ∀ bs cs : List Bool, PyData.eqvAll (bs.map PyData.bool) (cs.map PyData.bool) = decide (bs = cs)
  | [], [] => rfl
  | [], _ :: _ => rfl
  | _ :: _, [] => rfl
  | b :: bs, c :: cs => by
    show ((b == c) && PyData.eqvAll (bs.map PyData.bool) (cs.map PyData.bool)) = _
    rw [eqvB bs cs]
    by_cases h : b = c <;> simp [h]
theorem eqvS : ∀ bs cs : List Str, PyData.eqvAll (bs.map PyData.str) (cs.map PyData.str) = decide (bs = cs)
  | [], [] => rfl
  | [], _ :: _ => rfl
  | _ :: _, [] => rfl
  | b :: bs, c :: cs => by
    show ((b == c) && PyData.eqvAll (bs.map PyData.str) (cs.map PyData.str)) = _
    rw [eqvS bs cs]
    by_cases h : b = c <;> simp [h]
theorem layB : ∀ bs : List Bool, PyData.canLayAll0 (bs.map PyData.bool) = true
  | [] => rfl
  | b :: bs => by show (true && PyData.canLayAll0 (bs.map PyData.bool)) = true; rw [layB bs]; rfl
theorem layS : ∀ zs : List Str, (∀ z ∈ zs, PyData.strOk z = true) → PyData.canLayAll0 (zs.map PyData.str) = true
  | [], _ => rfl
  | z :: zs, h => by
    show (PyData.strOk z && PyData.canLayAll0 (zs.map PyData.str)) = true
    rw [h z List.mem_cons_self, layS zs fun y hy => h y (List.mem_cons_of_mem _ hy)]; rfl
theorem depAll : ∀ {ds : List PyData}, (∀ d ∈ ds, PyData.depth d = 0) → PyData.depthAll ds = 0
  | [], _ => rfl
  | d :: ds, h => by
    show max (PyData.depth d) (PyData.depthAll ds) = 0
    rw [h d List.mem_cons_self, depAll fun y hy => h y (List.mem_cons_of_mem _ hy)]; rfl
theorem shB (bs : List Bool) : SeqAt.shaped (.list (bs.map PyData.bool)) = true := by
  refine Bool.and_eq_true_iff.mpr ⟨layB bs, decide_eq_true ?_⟩
  show PyData.depthAll (bs.map PyData.bool) + 1 ≤ 64
  rw [depAll fun d hd => by obtain ⟨b, _, rfl⟩ := List.mem_map.mp hd; rfl]
  decide
theorem shT {zs : List Str} (h : ∀ z ∈ zs, PyData.strOk z = true) : SeqAt.shaped (.tuple (zs.map PyData.str)) = true := by
  refine Bool.and_eq_true_iff.mpr ⟨layS zs h, decide_eq_true ?_⟩
  show PyData.depthAll (zs.map PyData.str) + 1 ≤ 64
  rw [depAll fun d hd => by obtain ⟨b, _, rfl⟩ := List.mem_map.mp hd; rfl]
  decide
theorem shL {zs : List Str} (h : ∀ z ∈ zs, PyData.strOk z = true) : SeqAt.shaped (.list (zs.map PyData.str)) = true := by
  refine Bool.and_eq_true_iff.mpr ⟨layS zs h, decide_eq_true ?_⟩
  show PyData.depthAll (zs.map PyData.str) + 1 ≤ 64
  rw [depAll fun d hd => by obtain ⟨b, _, rfl⟩ := List.mem_map.mp hd; rfl]
  decide
theorem IsName.ok {z : Str} (h : IsName z) : PyData.strOk z = true := by
  show z.cps.all (fun x => decide (x < 1114112)) = true
  rw [← Array.all_toList, List.all_eq_true]
  intro c hc
  have := (h.2.2 c hc).2
  exact decide_eq_true (by omega)
end Mf
/-! Classes and methods by one fact each; readings of the own operators. -/
namespace Mf
open PySem L2
/-- C(..): the class at C, its __init__'s promise, the defaults that fill up -/
structure CalC (P : Program) (w : World) (K : PySem.W.Frag) (mg : Str → Option Value) (base : Heap) (CX : CXT) (k : Nat) (x : Str) (C : Addr) (ps : List Str) (sp : Sp) (dvs : List V) : Prop where
  ex : ∃ (f : Addr) (fd : FuncData) (ds : List Value), Mk K C f ∧ FnOk P w K mg base CX k f fd ps sp ∧ mg x = some (.ref C) ∧ Binds K fd ps ds ∧ Vals dvs ds
/-- a method -/
structure CalM (P : Program) (w : World) (K : PySem.W.Frag) (mg : Str → Option Value) (base : Heap) (CX : CXT) (k : Nat) (C : Addr) (m : Str) (ps : List Str) (sp : Sp) : Prop where
  ex : ∃ (f : Addr) (fd : FuncData), Meth K C m f ∧ PySem.W.fnIn K f = true ∧ FnOk P w K mg base CX k f fd ps sp ∧ Binds K fd ps []
section
variable {X : Cx} {CX : CXT} {k : Nat} {x m : Str} {C : Addr} {ps : List Str} {sp : Sp} {dvs : List V} {E : XK} {e o : Expr} {es : List Expr} {t : TA} {p pos apos : Pos} {ta to ti : TE}
theorem pe_mkc (c : CalC X.prog X.w X.K X.mg X.base CX k x C ps sp dvs) (hr : Room (k + 1) X.A) (hx : Passes CX X E) (ha : PA X (e :: es) t) (hg : Gl X x := by rfl)
    (hdb : (x == ("__debug__" : Str)) = false := by decide) (he : starEach (e :: es) X.env = (false, eval e X.env) :: starEach es X.env := by rfl) (hpl : (backTo pos (starEach es X.env)).any (·.1) = false := by rfl) :
    PE X (.Call (.Name x p) (e :: es) [] pos) (tMake C sp dvs E t) := by
  obtain ⟨f, fd, ds, M, F, mm, b, v⟩ := c.ex
  exact pe_make M F hr hg mm b v hx ha hdb he hpl
theorem pe_mkc0 (c : CalC X.prog X.w X.K X.mg X.base CX k x C ps sp dvs) (hr : Room (k + 1) X.A) (hx : Passes CX X E) (hg : Gl X x := by rfl) (hdb : (x == ("__debug__" : Str)) = false := by decide) :
    PE X (.Call (.Name x p) [] [] pos) (tMake C sp dvs E tNil) := by
  obtain ⟨f, fd, ds, M, F, mm, b, v⟩ := c.ex
  exact pe_make0 M F hr hg mm b v hx hdb
theorem om_cmp {op : CmpOp} (K : PySem.W.Frag) (c : CalM X.prog X.w X.K X.mg X.base CX k C (cmpInfo op).2.1 ps sp) (hr : Room k X.A) (hx : Passes CX X E) (hop : ∀ a b, compareOp op a b = richCompare op a b := by exact fun _ _ => rfl) (h : X.K = K := by rfl) : OpR X (compareOp op) (rCmpO K C sp E) := by
  obtain ⟨f, fd, M, _, F, b⟩ := c.ex
  exact h ▸ op_cmpO M F hr b hx hop
theorem om_ne (K : PySem.W.Frag) (c : CalM X.prog X.w X.K X.mg X.base CX k C "__eq__" ps sp) (ne : PySem.W.findIn X.K (.ref C) "__ne__" = some (some (.builtin "object.__ne__"))) (mo : PySem.W.mroIn X.K C (.type "object") = some true)
    (hr : Room (k + 1) X.A) (hx : Passes CX X E) (h : X.K = K := by rfl) : OpR X (compareOp .NotEq) (rNeO K C sp E) := by
  obtain ⟨f, fd, M, _, F, b⟩ := c.ex
  exact h ▸ op_neO M ne mo F hr b hx
theorem om_bin {op : Operator} (c : CalM X.prog X.w X.K X.mg X.base CX k C (PySem.dunder op.info.2) ps sp) (sf : PySem.W.selfFirst X.K C = true) (hr : Room k X.A) (hx : Passes CX X E) : OpR X (binaryOp op) (rBinO C sp E) := by
  obtain ⟨f, fd, M, _, F, b⟩ := c.ex
  exact op_binO M sf F hr b hx
theorem om_in (c : CalM X.prog X.w X.K X.mg X.base CX k C "__contains__" ps sp) (hr : Room k X.A) (hx : Passes CX X E) : OpR X (compareOp .In) (rInO C false sp E) := by
  obtain ⟨f, fd, M, _, F, b⟩ := c.ex
  exact op_inO M F hr b hx
theorem om_notIn (c : CalM X.prog X.w X.K X.mg X.base CX k C "__contains__" ps sp) (hr : Room k X.A) (hx : Passes CX X E) : OpR X (compareOp .NotIn) (rInO C true sp E) := by
  obtain ⟨f, fd, M, _, F, b⟩ := c.ex
  exact op_notInO M F hr b hx
theorem om_len (c : CalM X.prog X.w X.K X.mg X.base CX k C "__len__" ps sp) (hr : Room (k + 1) X.A) (hx : Passes CX X E) : CallR X (.builtin "len") (rLenO C sp E) := by
  obtain ⟨f, fd, M, _, F, b⟩ := c.ex
  exact call_lenO M F hr b hx
theorem om_get {i : Expr} (c : CalM X.prog X.w X.K X.mg X.base CX k C "__getitem__" ps sp) (hr : Room (k + 1) X.A) (hx : Passes CX X E) (ho : PE X o to) (hi : PE X i ti)
    (hsl : ∀ x y, subscripted i true x y = runValue (.builtin "lifetime.subscript" ⟨[x, y], []⟩) := by intro _ _; with_unfolding_all rfl) : PE X (.Subscript o i pos) (tOp (rGetO C sp E) to ti) := by
  obtain ⟨f, fd, M, fn, F, b⟩ := c.ex
  exact pe_getO M fn F hr b hx ho hi hsl
theorem om_meth {pl : Sem Bool} (he : PE X o ta) (c : Cls X.K C) (cm : CalM X.prog X.w X.K X.mg X.base CX k C m ps sp) (hr : Room k X.A) (hx : Passes CX X E) (ha : PA X (e :: es) t)
    (hst : starEach (e :: es) X.env = (false, eval e X.env) :: starEach es X.env := by rfl) (hpl : (backTo pos (starEach es X.env)).any (·.1) = false := by rfl)
    (ht : eval (.Call (.Attribute o m apos) (e :: es) [] pos) X.env = (do
      let ov ← eval o X.env
      standAt apos.atName
      let (f, first) ← holding [ov] (getMethod ov m pl)
      callWith pos f first (backTo pos (starEach (e :: es) X.env)) (backToKw pos (keywordEach [] X.env))) := by rfl) :
    PE X (.Call (.Attribute o m apos) (e :: es) [] pos) (tMeth C m sp [] E ta t) := by
  obtain ⟨f, fd, M, fn, F, b⟩ := cm.ex
  exact pe_meth he c M F hr b .nil hx ha hst hpl ht
theorem om_meth0 {pl : Sem Bool} (he : PE X o ta) (c : Cls X.K C) (cm : CalM X.prog X.w X.K X.mg X.base CX k C m ps sp) (hr : Room k X.A) (hx : Passes CX X E)
    (ht : eval (.Call (.Attribute o m apos) [] [] pos) X.env = (do
      let ov ← eval o X.env
      standAt apos.atName
      let (f, first) ← holding [ov] (getMethod ov m pl)
      callWith pos f first (backTo pos (starEach [] X.env)) (backToKw pos (keywordEach [] X.env))) := by rfl) :
    PE X (.Call (.Attribute o m apos) [] [] pos) (tMeth C m sp [] E ta tNil) := by
  obtain ⟨f, fd, M, fn, F, b⟩ := cm.ex
  exact pe_meth0 he c M F hr b .nil hx ht
end
/-- c and b, where b is asked without a change of the heap -/
theorem and_then {c b : Bool} {σ : L2.St} {H : Hp} {tb : TE} {Q : VK} (ht : c = true → ∀ Q' : VK, Q' (.bl b) H → tb σ H Q') (k : Q (.bl (c && b)) H) : if c = true then tb σ H Q else Q (.bl false) H := by
  cases c with
  | true => exact iteT (ht rfl Q (by simpa using k))
  | false => exact iteF k
end Mf
/-! From the head's facts to calls. -/
namespace Mf
open PySem L2
theorem kit_self {K : PySem.W.Frag} {C : Addr} : PySem.W.kitOne K (.ref C) (.ref C) = some true := by unfold PySem.W.kitOne; rw [if_pos (by simp)]
theorem kit_own {K : PySem.W.Frag} {C : Addr} {T : String} {b : Bool} (i : PySem.W.isClsIn K C = true) (t : PySem.W.typeIn K (.ref C) = some (.type "type")) (s : PySem.W.subIn K (.type T) (.ref C) = some b) : PySem.W.kitOne K (.type T) (.ref C) = some b := by
  have i' : (PySem.W.clsIn K C).isSome = true := i
  unfold PySem.W.kitOne PySem.W.kitCls
  rw [if_neg (by simp)]
  show (if ((PySem.W.clsIn K C).isSome && PySem.W.typeIn K (.ref C) == some (.type "type")) = true then PySem.W.subIn K (.type T) (.ref C) else none) = some b
  rw [if_pos (by rw [i', t]; rfl)]
  exact s
theorem notFirst_of {K : PySem.W.Frag} {C : Addr} {T : String} (s : PySem.W.subIn K (.type T) (.ref C) = some false) : PySem.W.notFirst K C (.type T) = true := by
  unfold PySem.W.notFirst
  rw [s]; simp
/-- a def of the text as it stands behind the top -/
structure DefF (K : PySem.W.Frag) (x : Str) (st : Stmt) (f : Addr) : Prop where
  ex : ∃ (oc : Value) (od : Option Addr) (sl : Array (Option Value)) (kV dc pm : Value) (an : Option Addr) (cd ct : Value), PySem.W.nsIn K mainGlobals x = some (some (.ref f)) ∧
    K.lookup f = some ⟨oc, od, .func (PySem.W.fnOf x x (defArgs st) (defBody st) (defScope st) .none kV dc pm an cd ct), sl⟩ ∧ PySem.W.codeIn K cd x = true ∧ PySem.W.keepIn K (.ref f) = true
/-- a method of the class at C -/
structure MetF (K : PySem.W.Frag) (C : Addr) (m qual : Str) (st : Stmt) (f : Addr) : Prop where
  ex : ∃ (oc : Value) (od : Option Addr) (sl : Array (Option Value)) (kV dc pm : Value) (an : Option Addr) (cd ct : Value), PySem.W.findIn K (.ref C) m = some (some (.ref f)) ∧
    K.lookup f = some ⟨oc, od, .func (PySem.W.fnOf m qual (defArgs st) (defBody st) (defScope st) .none kV dc pm an cd ct), sl⟩ ∧ PySem.W.codeIn K cd qual = true ∧ PySem.W.keepIn K (.ref f) = true ∧ PySem.W.isFn K (.ref f) = true ∧ PySem.W.fnIn K f = true
section
variable {P : Program} {w : World} {K : PySem.W.Frag} {mg : Str → Option Value} {base h : Heap} {CX : CXT} {k : Nat} {x m qual : Str} {st : Stmt} {f C : Addr} {ps : List Str} {sp : Sp}
abbrev BindP (x qual : Str) (st : Stmt) (ps : List Str) : Prop := ∀ (kV doc pm : Value) (an : Option Addr) (cdv ct : Value) (us : List Value), us.length = ps.length → bindArgs (PySem.W.fnOf x qual (defArgs st) (defBody st) (defScope st) .none kV doc pm an cdv ct) ⟨us, []⟩ = pure (ps.zip us)
theorem DefF.cal (D : DefF K x st f) (X : K.In h) (G : h.Ns mainGlobals mg) (hb : BindP x x st ps) (ok : ∀ fd, Fun K x x st f fd → FnOk P w K mg base CX k f fd ps sp) : Cal P w K mg base CX k x ps sp := by
  obtain ⟨oc, od, sl, kV, dc, pm, an, cd, ct, a, l, c, q⟩ := D.ex
  have F := fun_mk (st := st) l c q
  exact ⟨⟨f, _, ok _ F, PySem.W.mg_of X G a, q, F.binds hb⟩⟩
theorem MetF.cal (D : MetF K C m qual st f) (hb : BindP m qual st ps) (ok : ∀ fd, Fun K m qual st f fd → FnOk P w K mg base CX k f fd ps sp) : CalM P w K mg base CX k C m ps sp := by
  obtain ⟨oc, od, sl, kV, dc, pm, an, cd, ct, a, l, c, q, i, n⟩ := D.ex
  have F := fun_mk (st := st) l c q
  exact ⟨⟨f, _, ⟨a, i, q⟩, n, ok _ F, F.binds hb⟩⟩
/-- the law itself -/
theorem DefF.law {fa : Addr} (D : DefF K "law" st f) (X : K.In h) (G : h.Ns mainGlobals mg) (hfa : mg "law" = some (.ref fa)) (hb : ∀ (kV doc pm : Value) (an : Option Addr) (cdv ct : Value) (s : Shared) (v : Value), BindsTo s (PySem.W.fnOf "law" "law" (defArgs st) (defBody st) (defScope st) .none kV doc pm an cdv ct) ⟨[v], []⟩ [("_law_script", v)])
    (ok : ∀ base : Heap, K.In base → base.Ns mainGlobals mg → ∀ fd, Fun K "law" "law" st f fd → FnOk P w K mg base CX0 k f fd ["_law_script"] sp) :
    ∃ fd : FuncData, (∀ (s : Shared) (v : Value), BindsTo s fd ⟨[v], []⟩ [("_law_script", v)]) ∧ ∀ base : Heap, K.In base → base.Ns mainGlobals mg → FnOk P w K mg base CX0 k fa fd ["_law_script"] sp := by
  obtain ⟨oc, od, sl, kV, dc, pm, an, cd, ct, a, l, c, q⟩ := D.ex
  have e := hfa.symm.trans (PySem.W.mg_of X G a)
  cases e
  exact ⟨_, hb kV dc pm an cd ct, fun base b1 b2 => ok base b1 b2 _ (fun_mk (st := st) l c q)⟩
/-- what a law takes and gives -/
def spLaw (K : PySem.W.Frag) : Sp := fun vs H Q _ => ∃ (a : Addr) (ns : List Int), vs = [.ref a] ∧ SqL K H a (ns.map V.int) ∧ ns.length ≤ 63 ∧ ∀ H', Q (.bl true) H'
end
theorem walk {n : Nat} {l : PySem.W.OpenLaw} {q : Program} {loose : List Str} {XP : (Str → Option Value) → Heap → Prop} {YP : World → Heap → Prop} {d : DefRec} {K : Params → PySem.W.Frag} (hn : l.most = some 63) (hdf : d.params.defaults = [])
    (hr : Room n callerA)
    (hY : ∀ (w : World) (h : Heap), YP w h → (K w.params).In h)
    (F : ∀ (w : World) (mg : Str → Option Value) (fa : Addr) (h : Heap), (K w.params).In h → h.Ns mainGlobals mg → mg d.name = some (.ref fa) →
      ∃ fd : FuncData, (∀ (s : Shared) (u : Value), BindsTo s fd ⟨[u], []⟩ [("_law_script", u)]) ∧ ∀ base : Heap, (K w.params).In base → base.Ns mainGlobals mg → FnOk l.prog w (K w.params) mg base CX0 n fa fd ["_law_script"] (spLaw (K w.params))) :
    PySem.W.WalkO q loose XP YP l.row.toRowW d [] (fun f vs => PySem.call f vs) :=
  L2.walk_of (n := 63) (k := n) (x := "_law_script") (CX := fun _ => CX0) (sp := fun w => spLaw (K w.params)) hn (by decide) hdf hr hY F (fun _ _ a ns hl _ hS => ⟨a, ns, rfl, hS, hl, fun _ => rfl⟩) fun _ _ _ _ _ z => z
end Mf
/-! Counting loops that begin at another number. -/
namespace Mf
open PySem L2

/-- what such a loop yields; G i H x: the i-th thing is x -/
def ItN (k₀ : Int) (go : Nat → Hp → Prop) (stop : Nat → Hp → Prop) (is : Nat → Hp → V → Prop) : It :=
  { go := go, stop := stop, yld := fun i H v H' => ∃ T x, v = .ref T ∧ H T = none ∧ H' = upd H T (.tup [.int (k₀ + i), x]) ∧ is i H x }

/-- the turns, over any source that draws -/
theorem turn_from {P : Program} {w : World} {K : W.Frag} {elts : List PySem.Expr} {kk : Nat} {tpos : Pos} (k₀ : Int) (e it : Addr)
    {go stop : Nat → Hp → Prop} {is : Nat → Hp → V → Prop} {SI : Nat → Heap → Prop}
    (obj : ∀ i h, SI i h → ∃ o, h.get? it = some o ∧ ∀ v : Option Value, o.data ≠ .cell v)
    (keep : ∀ i h h', SI i h → (∀ o, h.get? it = some o → h'.get? it = some o) → SI i h')
    (src : ∀ (X : Cx), X.prog = P → X.w = w → X.K = K → X.calm = true → ∀ (i : Nat) (pins : List (Addr × Obj)) (s : Shared) (σ : St) (H : Hp),
      L2.Inv X pins σ H s → (∀ b ∈ [e, it], FpOk X pins H b) → (∃ old, IsEnum s.heap e it (k₀ + i) old) → SI i s.heap → e ≠ it → (go i H ∨ stop i H) →
      ∃ (n : Nat) (fp : List Addr) (S : Nat → Heap → Prop) (Q : Nat → Value → Prop), Draws P w (Around.in1 X.A) it fp n Q S ∧ S i s.heap ∧ e ∉ fp ∧
        (go i H → i < n) ∧ (stop i H → i = n) ∧ (∀ h, S (i + 1) h → SI (i + 1) h) ∧ ∀ v, Q i v → go i H → ∃ x, RelV x v ∧ is i H x) :
    Turn P w K (.Tuple elts kk tpos) (ItN k₀ go stop is) [e, it] e fun i h => (∃ old, IsEnum h e it (k₀ + i) old) ∧ SI i h ∧ e ≠ it := by
  have mE : e ∈ [e, it] := List.mem_cons_self
  have mI : it ∈ [e, it] := List.mem_cons_of_mem _ List.mem_cons_self
  refine ⟨mE, ?_, ?_, ?_, ?_, ?_⟩
  · rintro i h ⟨⟨old, he⟩, hi, ne⟩ b hb
    simp only [List.mem_cons, List.not_mem_nil, or_false] at hb
    rcases hb with rfl | rfl
    · exact ⟨_, he, fun v q => nomatch q⟩
    · exact obj i h hi
  · rintro i h h' ⟨⟨old, he⟩, hi, ne⟩ k
    exact ⟨⟨old, k e mE _ he⟩, keep i h h' hi (k it mI), ne⟩
  · rintro X hP hw hK hc i pins s σ H E I hf ⟨⟨old, he⟩, hi, ne⟩ hg
    obtain ⟨n, fp, S, Q, D, s0, nf, lt, -, fw, rel⟩ := src X hP hw hK hc i pins s σ H I hf ⟨old, he⟩ hi ne (.inl hg)
    refine wpAny_pyNext_enum_itemC D he s0 (lt hg) ne nf fun x h' tk qx ho hS hT hsz hk => ?_
    refine ⟨_, rfl, wpAny_letOwnedTupleGo_enum ho fun h'' he' sb => ?_⟩
    obtain ⟨y, ry, iy⟩ := rel x qx hg
    have hel := Heap.lt_size he
    have hil : it < s.heap.objs.size := by obtain ⟨o, q, _⟩ := obj i _ hi; exact Heap.lt_size q
    have hT2 := (sb.right s.heap.objs.size (Nat.ne_of_gt hel)).trans hT
    have new : ObjOk X.prog X.w (upd H s.heap.objs.size (.tup [.int (k₀ + i), y])) h'' s.heap.objs.size (.tup [.int (k₀ + i), y]) :=
      ⟨(by show 2 ≤ sizeLine; decide), [.int (k₀ + i) tk, x], .cons ⟨tk, rfl⟩ (.cons ry .nil), _, hT2, rfl, 0, rfl⟩
    have I1 := I.turnedNew (t' := tk + 1) (fun b ob hb q => (sb.right b fun z => hb (z ▸ mE)).trans (hk b ob (fun z => hb (z ▸ mE)) (fun z => hb (z ▸ mI)) q)) hf (Nat.le_refl _) new
    refine ⟨.ref s.heap.objs.size, _, I1, rfl, ⟨_, y, rfl, I.hok.fresh (Nat.le_refl _), rfl, iy⟩, ⟨⟨x, ?_⟩, ?_, ne⟩, ?_⟩
    · have e1 : k₀ + ((i + 1 : Nat) : Int) = k₀ + i + 1 := by omega
      rw [e1]; exact he'
    · exact keep (i + 1) h' h'' (fw _ hS) fun o q => (sb.right it (Ne.symm ne)).trans q
    · intro b hb
      have hb' : b < s.heap.objs.size := by
        simp only [List.mem_cons, List.not_mem_nil, or_false] at hb
        rcases hb with rfl | rfl <;> assumption
      rw [upd_ne (Nat.ne_of_lt hb')]
      exact (hf b hb).1
  · rintro X hP hw hK hc i pins s σ H E I hf ⟨⟨old, he⟩, hi, ne⟩ hg
    obtain ⟨n, fp, S, Q, D, s0, nf, -, eq, -, -⟩ := src X hP hw hK hc i pins s σ H I hf ⟨old, he⟩ hi ne (.inr hg)
    obtain ⟨f0, f1, f2, f3, f4, f5⟩ := hf it mI
    have hin := eq hg
    subst hin
    exact wpAny_pyNext_enum_endD D he s0 fun h' eb => ⟨rfl, I.turned (fun b o hb q => eb b o hb q) f0 f1 f3 f4 f5⟩
  · rintro A i s Q E ⟨⟨old, he⟩, _⟩ h
    exact wpAny_pyIter_enum he h
end Mf
namespace Mf
open PySem L2
theorem callType_kw {M : Model} {A : Around} {E : Value → Shared → Prop} {s : Shared} {env : Env} {pos : Pos} {T : String} {e : Expr} {rest : List Expr} {kws : List Keyword} {Q : Value → Shared → Prop}
    (h : wpAny M A (spliced (backTo pos (starEach (e :: rest) env))) (fun vs s₁ => wpAny M A (evalAll ((backToKw pos (keywordEach kws env)).map (·.2)))
      (fun ks s₂ => wpAny M A (call (.type T) vs (((backToKw pos (keywordEach kws env)).filterMap (·.1)).zip ks)) Q E s₂) E s₁) E s)
    (h0 : backTo pos (starEach (e :: rest) env) = (false, eval e env) :: backTo pos (starEach rest env))
    (h1 : (backTo pos (starEach (e :: rest) env)).any (·.1) = false) (h2 : (backToKw pos (keywordEach kws env)).all (fun x => x.1.isSome) = true)
    (h3 : (backToKw pos (keywordEach kws env)).any (fun x => x.1.isNone) = false) :
    wpAny M A (callWith pos (.type T) [] (backTo pos (starEach (e :: rest) env)) (backToKw pos (keywordEach kws env))) Q E s := by
  rw [h0] at h h1 ⊢
  unfold callWith
  refine wpAny_bind (wpAny_holding (evalArgs_kw h2 (wpAny_mono h ?_ fun _ _ q => q)))
  intro vs s1 h
  refine wpAny_mono h ?_ fun _ _ q => q
  intro ks s2 h
  rw [h1, h3]
  refine wpAny_bind (wpAny_standAt ?_)
  refine wpAny_bind (wpAny_pure ?_)
  refine wpAny_bind (wpAny_mono h ?_ fun _ _ q => q)
  intro v s3 q
  exact wpAny_bind (wpAny_holding (wpAny_point (wpAny_pure q)))

/-- enumerate(.., start=k₀) over a list or a tuple -/
def iEnumS (K : W.Frag) (k₀ : Int) (te : TA) : TI := fun σ H R => te σ H fun vs H1 => ∃ (a : Addr) (xs : List V), vs = [.ref a] ∧
  ((SqL K H1 a xs ∧ R (ItN k₀ (fun i H => ∃ xs x, SqL K H a xs ∧ xs[i]? = some x) (fun i H => ∃ xs, SqL K H a xs ∧ xs.length = i) fun i H x => ∀ xs, SqL K H a xs → xs[i]? = some x) H1) ∨
   (SqT K H1 a xs ∧ R (ItN k₀ (fun i H => ∃ xs x, SqT K H a xs ∧ xs[i]? = some x) (fun i H => ∃ xs, SqT K H a xs ∧ xs.length = i) fun i H x => ∀ xs, SqT K H a xs → xs[i]? = some x) H1))
theorem back_get {xs : List V} {us : List Value} (r : Vals xs us) {i : Nat} {u : Value} (h : us[i]? = some u) : ∃ x, RelV x u ∧ xs[i]? = some x := by
  have hi : i < us.length := by
    rcases Nat.lt_or_ge i us.length with q | q
    · exact q
    · rw [List.getElem?_eq_none q] at h; cases h
  rw [← r.length] at hi
  obtain ⟨u', hu, ru⟩ := Vals.get r (List.getElem?_eq_getElem hi)
  rw [h] at hu
  cases hu
  exact ⟨_, ru, List.getElem?_eq_getElem hi⟩
theorem turn_fromL {P : Program} {w : World} {K : W.Frag} {elts : List Expr} {kk : Nat} {tpos : Pos} (k₀ : Int) (e it a : Addr) :
    Turn P w K (.Tuple elts kk tpos) (ItN k₀ (fun i H => ∃ xs x, SqL K H a xs ∧ xs[i]? = some x) (fun i H => ∃ xs, SqL K H a xs ∧ xs.length = i) fun i H x => ∀ xs, SqL K H a xs → xs[i]? = some x) [e, it] e
      fun i h => (∃ old, IsEnum h e it (k₀ + i) old) ∧ Heap.IsListIter h it a i ∧ e ≠ it := by
  refine turn_from k₀ e it ?_ ?_ ?_
  · rintro i h ⟨o, ho, hc, hd⟩
    exact ⟨o, ho, fun v q => by rw [hd] at q; cases q⟩
  · intro i h h' q k
    exact q.at fun o z => k o z
  · rintro X rfl rfl rfl hc i pins s σ H I hf ⟨old, he⟩ hi ne hg
    have key : ∀ xs, SqL X.K H a xs → ∃ (n : Nat) (fp : List Addr) (S : Nat → Heap → Prop) (Q : Nat → Value → Prop), Draws X.prog X.w (Around.in1 X.A) it fp n Q S ∧ S i s.heap ∧ e ∉ fp ∧
        n = xs.length ∧ (∀ h, S (i + 1) h → Heap.IsListIter h it a (i + 1)) ∧ ∀ v, Q i v → ∃ x, RelV x v ∧ xs[i]? = some x := by
      intro xs hq
      obtain ⟨its, rv, p, hz⟩ := I.list hq
      have pl := p.isList
      have n1 : a ≠ it := fun q => by
        obtain ⟨o, ho, hc, _⟩ := pl
        obtain ⟨o', ho', hc', _⟩ := hi
        rw [q, ho'] at ho; cases ho; rw [hc'] at hc; injection hc with hc; exact absurd hc (by decide)
      have n2 : a ≠ e := fun q => by
        obtain ⟨o, ho, hc, _⟩ := pl
        have he' : s.heap.get? e = _ := he
        rw [q, he'] at ho; cases ho; injection hc with hc; exact absurd hc (by decide)
      refine ⟨_, _, _, _, Draws.list (show (Around.in1 X.A).handled = none from I.ok.hd hc) it a n1 its.toArray, ⟨hi, pl⟩, ?_, ?_, fun h q => q.1, ?_⟩
      · intro q
        simp only [List.mem_cons, List.not_mem_nil, or_false] at q
        rcases q with q | q
        · exact ne q
        · exact n2 q.symm
      · rw [List.size_toArray, rv.length]
      · intro v hv
        have hv : its[i]? = some v := by rw [← List.getElem?_toArray]; exact hv
        exact back_get rv hv
    rcases hg with ⟨xs, x, hq, hx⟩ | ⟨xs, hq, hx⟩
    · obtain ⟨n, fp, S, Q, D, s0, nf, hn, fw, rel⟩ := key xs hq
      refine ⟨n, fp, S, Q, D, s0, nf, fun _ => ?_, ?_, fw, fun v qv _ => ?_⟩
      · rw [hn]
        rcases Nat.lt_or_ge i xs.length with q | q
        · exact q
        · rw [List.getElem?_eq_none q] at hx; cases hx
      · rintro ⟨ys, hy, rfl⟩
        rw [hn, I.list_inj hq hy]
      · obtain ⟨x', rx, hx'⟩ := rel v qv
        exact ⟨x', rx, fun ys hy => by rw [I.list_inj hy hq]; exact hx'⟩
    · obtain ⟨n, fp, S, Q, D, s0, nf, hn, fw, rel⟩ := key xs hq
      refine ⟨n, fp, S, Q, D, s0, nf, ?_, fun _ => by rw [hn, hx], fw, fun v qv _ => ?_⟩
      · rintro ⟨ys, y, hy, hyi⟩
        rw [I.list_inj hy hq, List.getElem?_eq_none (by omega)] at hyi; cases hyi
      · obtain ⟨x', rx, hx'⟩ := rel v qv
        exact ⟨x', rx, fun ys hy => by rw [I.list_inj hy hq]; exact hx'⟩
theorem isTuple_of {h : Heap} {a : Addr} {its : Array Value} (p : PyProof.Rows.IsTup h a its) : Heap.IsTuple h a its := p
theorem turn_fromT {P : Program} {w : World} {K : W.Frag} {elts : List Expr} {kk : Nat} {tpos : Pos} (k₀ : Int) (e it a : Addr) :
    Turn P w K (.Tuple elts kk tpos) (ItN k₀ (fun i H => ∃ xs x, SqT K H a xs ∧ xs[i]? = some x) (fun i H => ∃ xs, SqT K H a xs ∧ xs.length = i) fun i H x => ∀ xs, SqT K H a xs → xs[i]? = some x) [e, it] e
      fun i h => (∃ old, IsEnum h e it (k₀ + i) old) ∧ Heap.IsTupleIter h it a i ∧ e ≠ it := by
  refine turn_from k₀ e it ?_ ?_ ?_
  · rintro i h ⟨o, ho, hc, hd⟩
    exact ⟨o, ho, fun v q => by rw [hd] at q; cases q⟩
  · intro i h h' q k
    exact q.at fun o z => k o z
  · rintro X rfl rfl rfl hc i pins s σ H I hf ⟨old, he⟩ hi ne hg
    have key : ∀ xs, SqT X.K H a xs → ∃ (n : Nat) (fp : List Addr) (S : Nat → Heap → Prop) (Q : Nat → Value → Prop), Draws X.prog X.w (Around.in1 X.A) it fp n Q S ∧ S i s.heap ∧ e ∉ fp ∧
        n = xs.length ∧ (∀ h, S (i + 1) h → Heap.IsTupleIter h it a (i + 1)) ∧ ∀ v, Q i v → ∃ x, RelV x v ∧ xs[i]? = some x := by
      intro xs hq
      obtain ⟨its, rv, p, hz⟩ := I.tuple hq
      have pl := isTuple_of p
      have n1 : a ≠ it := fun q => by
        obtain ⟨o, ho, hc, _⟩ := pl
        obtain ⟨o', ho', hc', _⟩ := hi
        rw [q, ho'] at ho; cases ho; rw [hc'] at hc; injection hc with hc; exact absurd hc (by decide)
      have n2 : a ≠ e := fun q => by
        obtain ⟨o, ho, hc, _⟩ := pl
        have he' : s.heap.get? e = _ := he
        rw [q, he'] at ho; cases ho; injection hc with hc; exact absurd hc (by decide)
      refine ⟨_, _, _, _, Draws.tuple (show (Around.in1 X.A).handled = none from I.ok.hd hc) it a n1 its.toArray, ⟨hi, pl⟩, ?_, ?_, fun h q => q.1, ?_⟩
      · intro q
        simp only [List.mem_cons, List.not_mem_nil, or_false] at q
        rcases q with q | q
        · exact ne q
        · exact n2 q.symm
      · rw [List.size_toArray, rv.length]
      · intro v hv
        have hv : its[i]? = some v := by rw [← List.getElem?_toArray]; exact hv
        exact back_get rv hv
    rcases hg with ⟨xs, x, hq, hx⟩ | ⟨xs, hq, hx⟩
    · obtain ⟨n, fp, S, Q, D, s0, nf, hn, fw, rel⟩ := key xs hq
      refine ⟨n, fp, S, Q, D, s0, nf, fun _ => ?_, ?_, fw, fun v qv _ => ?_⟩
      · rw [hn]
        rcases Nat.lt_or_ge i xs.length with q | q
        · exact q
        · rw [List.getElem?_eq_none q] at hx; cases hx
      · rintro ⟨ys, hy, rfl⟩
        rw [hn, I.tuple_inj hq hy]
      · obtain ⟨x', rx, hx'⟩ := rel v qv
        exact ⟨x', rx, fun ys hy => by rw [I.tuple_inj hy hq]; exact hx'⟩
    · obtain ⟨n, fp, S, Q, D, s0, nf, hn, fw, rel⟩ := key xs hq
      refine ⟨n, fp, S, Q, D, s0, nf, ?_, fun _ => by rw [hn, hx], fw, fun v qv _ => ?_⟩
      · rintro ⟨ys, y, hy, hyi⟩
        rw [I.tuple_inj hy hq, List.getElem?_eq_none (by omega)] at hyi; cases hyi
      · obtain ⟨x', rx, hx'⟩ := rel v qv
        exact ⟨x', rx, fun ys hy => by rw [I.tuple_inj hy hq]; exact hx'⟩
theorem pi_enumS {X : Cx} {e : Expr} {ta : TA} {p pos tpos kp cq : Pos} {cp : Nat} {elts : List Expr} {kk : Nat} {k₀ : Int} (hg : Gl X "enumerate") (hm : X.mg "enumerate" = none) (ha : PA X [e] ta)
    (b0 : -2 ^ 63 ≤ k₀) (b1 : k₀ < 2 ^ 63)
    (h0 : backTo pos (starEach [e] X.env) = (false, eval e X.env) :: backTo pos (starEach [] X.env) := by rfl)
    (h1 : (backTo pos (starEach [e] X.env)).any (·.1) = false := by rfl) :
    PI X (.Tuple elts kk tpos) (.Call (.Name "enumerate" p) [e] [⟨some "start", .Constant (.int k₀) cp cq, kp⟩] pos) (iEnumS X.K k₀ ta) := by
  refine ⟨fun pins s σ H R I h => wpAny_Call_Name_kw (ld_blt I hg hm PyProof.Rows.boot_enumerate (callType_kw (thn (ha.run pos pins s σ H _ I h) ?_) h0 h1 rfl rfl))⟩
  rintro us s1 ⟨vs, H1, I1, r1, q1⟩
  have pk : PK X [⟨some "start", .Constant (.int k₀) cp cq, kp⟩] (tCons (tC (.int k₀)) tNil) := pk_cons pe_int pk_nil
  refine thn (pk.run pos pins s1 σ H1 (fun zs H' => zs = [.int k₀] ∧ H' = H1) I1 ⟨rfl, rfl⟩) ?_
  rintro ks s2 ⟨zs, H2, I2, r2, rfl, rfl⟩
  match ks, r2 with
  | [_], .cons ⟨t, ht⟩ .nil =>
    subst ht
    obtain ⟨a, xs, rfl, q1⟩ := q1
    match us, r1 with
    | [_], .cons ra .nil =>
      have ra : _ = Value.ref a := ra
      subst ra
      rcases q1 with ⟨hq, q⟩ | ⟨hq, q⟩
      · obtain ⟨its, rv, p', hz⟩ := I2.list hq
        refine enum_begins_start (begins_list a its.toArray) p'.isList b0 b1 fun h' he ho hsz hk => ?_
        refine wpAny_pyIter_enum he ?_
        have I3 := I2.kept (t' := s2.toks) hk
        refine ⟨_, [s2.heap.objs.size + 1, s2.heap.objs.size], _, _, H2, rfl, I3, turn_fromL k₀ _ _ a, ⟨⟨_, by simpa using he⟩, ⟨_, ho, rfl, rfl⟩, Nat.succ_ne_self _⟩, ?_, q⟩
        intro b hb
        simp only [List.mem_cons, List.not_mem_nil, or_false] at hb
        rcases hb with rfl | rfl
        · exact I2.fpOk (Nat.le_succ _) (I2.hok.fresh (Nat.le_succ _))
        · exact I2.fpOk (Nat.le_refl _) (I2.hok.fresh (Nat.le_refl _))
      · obtain ⟨its, rv, p', hz⟩ := I2.tuple hq
        refine enum_begins_start (begins_tuple a its.toArray) (isTuple_of p') b0 b1 fun h' he ho hsz hk => ?_
        refine wpAny_pyIter_enum he ?_
        have I3 := I2.kept (t' := s2.toks) hk
        refine ⟨_, [s2.heap.objs.size + 1, s2.heap.objs.size], _, _, H2, rfl, I3, turn_fromT k₀ _ _ a, ⟨⟨_, by simpa using he⟩, ⟨_, ho, rfl, rfl⟩, Nat.succ_ne_self _⟩, ?_, q⟩
        intro b hb
        simp only [List.mem_cons, List.not_mem_nil, or_false] at hb
        rcases hb with rfl | rfl
        · exact I2.fpOk (Nat.le_succ _) (I2.hok.fresh (Nat.le_succ _))
        · exact I2.fpOk (Nat.le_refl _) (I2.hok.fresh (Nat.le_refl _))
theorem walk_enumSL {K : W.Frag} {k₀ : Int} {a : Addr} {xs : List V} :
    Walk (ItN k₀ (fun i H => ∃ xs x, SqL K H a xs ∧ xs[i]? = some x) (fun i H => ∃ xs, SqL K H a xs ∧ xs.length = i) fun i H x => ∀ xs, SqL K H a xs → xs[i]? = some x) xs.length (fun H => SqL K H a xs)
      (YPair (fun i => some (.int (k₀ + i))) fun i => xs[i]?) where
  goes := fun i H hi h => ⟨xs, xs[i], h, List.getElem?_eq_getElem hi⟩
  stops := fun H h => ⟨xs, h, rfl⟩
  yields := by
    rintro i H x H' hi h ⟨T, y, rfl, hT, rfl, hy⟩
    exact ⟨T, _, y, rfl, hT, rfl, rfl, hy xs h⟩
theorem walk_enumST {K : W.Frag} {k₀ : Int} {a : Addr} {xs : List V} :
    Walk (ItN k₀ (fun i H => ∃ xs x, SqT K H a xs ∧ xs[i]? = some x) (fun i H => ∃ xs, SqT K H a xs ∧ xs.length = i) fun i H x => ∀ xs, SqT K H a xs → xs[i]? = some x) xs.length (fun H => SqT K H a xs)
      (YPair (fun i => some (.int (k₀ + i))) fun i => xs[i]?) where
  goes := fun i H hi h => ⟨xs, xs[i], h, List.getElem?_eq_getElem hi⟩
  stops := fun H h => ⟨xs, h, rfl⟩
  yields := by
    rintro i H x H' hi h ⟨T, y, rfl, hT, rfl, hy⟩
    exact ⟨T, _, y, rfl, hT, rfl, rfl, hy xs h⟩
end Mf
namespace Mf
open PySem L2
theorem next_val {prog : Program} {w : World} {A : Around} {E : Value → Shared → Prop} {s : Shared} {it d : Addr} {i ep : Nat} {es : Array DictEntry} {Q : Value → Shared → Prop}
    (hi : Heap.IsValIter s.heap it d i es.size ep) (hd : Heap.DictRaw s.heap d es ep) (hlt : i < es.size)
    (h : ∀ h' : Heap, Heap.IsValIter h' it d (i + 1) es.size ep → Heap.SameBut it s.heap h' → Q es[i].val { s with heap := h' }) :
    wpAny (model prog w) A (Builtin.SmallTypes.nextOf (.ref it)) Q E s := by
  unfold Builtin.SmallTypes.nextOf
  refine wpAny_bind (wpAny_callSpecial?_slot hi.typeIs F.slot_dict_valueiterator_next ?_)
  refine wpAny_call_entry F.slot_dict_valueiterator_next hi.typeIs F.entry_dict_valueiterator_next ?_ (F.args_dict_valueiterator_next_1 _)
  unfold Builtin.«dict_valueiterator.__next__»
  have ty := hi.typeIs
  obtain ⟨o, ho, hc, hdat⟩ := hi
  obtain ⟨od, hod, -, hodd⟩ := hd
  refine wpAny_bind (wpAny_of_eq (a := .ref it) rfl ?_)
  refine wpAny_bind ?_
  refine wpAny_bind (wpAny_bind (wpAny_typeNameOfWhole_valiter ty (wpAny_pure ?_)))
  refine wpAny_bind (wpAny_fieldsOf ho hdat ?_)
  have ow : (if Builtin.Dict_items.ownsTuple "dict_valueiterator" = true then 2 else 0) = 0 := by decide +kernel
  rw [ow]
  refine wpAny_ite_false (by rfl) ?_
  refine wpAny_bind (wpAny_of_eq (a := d) rfl ?_)
  refine wpAny_bind (wpAny_dictEntries hod hodd ?_)
  refine wpAny_ite_false (by simp) ?_
  refine wpAny_bind (wpAny_of_eq (a := d) rfl ?_)
  refine wpAny_bind (wpAny_dictEpoch hod hodd ?_)
  refine wpAny_ite_false (by simp) ?_
  refine wpAny_pure ?_
  have e2 : (if ((i : Nat) : Int) < 0 then none else es[((i : Nat) : Int).toNat]?) = some es[i] := by
    rw [if_neg (by omega)]
    show es[i]? = _
    rw [Array.getElem?_eq_getElem hlt]
  dsimp only
  rw [e2]
  dsimp only
  refine wpAny_bind (wpAny_bind (wpAny_typeNameOfWhole_valiter ty (wpAny_pure ?_)))
  refine wpAny_bind (wpAny_isOneOf_valiter ty ?_)
  rw [ow]
  refine wpAny_bind (wpAny_setField ho hdat (by show 1 < 4; decide) ?_)
  rw [if_neg (by decide +kernel)]
  have sb := Heap.SameBut.update s.heap it (Obj.mapFields fun x => x.setIfInBounds (0 + 1) (rawInt ((i : Int) + 1)))
  have hn : Heap.IsValIter (s.heap.update it (Obj.mapFields fun x => x.setIfInBounds (0 + 1) (rawInt ((i : Int) + 1)))) it d (i + 1) es.size ep := by
    have dm := Obj.data_mapFields hdat fun x => x.setIfInBounds (0 + 1) (rawInt ((i : Int) + 1))
    refine ⟨_, Heap.get?_update_self _ ho (Obj.isFreed_of_fields dm), ?_, ?_⟩
    · rw [Obj.cls_mapFields]; exact hc
    · rw [dm]
      simp [rawInt]
  generalize s.heap.update it (Obj.mapFields fun x => x.setIfInBounds (0 + 1) (rawInt ((i : Int) + 1))) = h2 at sb hn ⊢
  have ty2 : Shared.TypeIs { s with heap := h2 } (.ref it) "dict_valueiterator" := hn.typeIs
  refine wpAny_bind (wpAny_holding (wpAny_bind (wpAny_isOneOf_valiter ty2 ?_)))
  refine wpAny_ite_false (by decide +kernel) ?_
  refine wpAny_bind (wpAny_isOneOf_valiter ty2 ?_)
  refine wpAny_ite_true (by decide +kernel) ?_
  refine wpAny_pure ?_
  refine wpAny_pure ⟨_, rfl, ?_⟩
  exact wpAny_pure (h h2 hn sb)
theorem next_val_end {prog : Program} {w : World} {A : Around} {E : Value → Shared → Prop} {s : Shared} {it d : Addr} {ep : Nat} {es : Array DictEntry} {Q : Value → Shared → Prop}
    (hh : A.handled = none) (hi : Heap.IsValIter s.heap it d es.size es.size ep) (hd : Heap.DictRaw s.heap d es ep)
    (h : ∀ (h' : Heap) (e : Addr), Heap.ExtBut it s.heap h' → (∃ o, h'.get? e = some o ∧ o.cls = .type "StopIteration") → E (.ref e) { s with heap := h' }) :
    wpAny (model prog w) A (Builtin.SmallTypes.nextOf (.ref it)) Q E s := by
  unfold Builtin.SmallTypes.nextOf
  refine wpAny_bind (wpAny_callSpecial?_slot hi.typeIs F.slot_dict_valueiterator_next ?_)
  refine wpAny_call_entry F.slot_dict_valueiterator_next hi.typeIs F.entry_dict_valueiterator_next ?_ (F.args_dict_valueiterator_next_1 _)
  unfold Builtin.«dict_valueiterator.__next__»
  have ty := hi.typeIs
  obtain ⟨o, ho, hc, hdat⟩ := hi
  obtain ⟨od, hod, -, hodd⟩ := hd
  refine wpAny_bind (wpAny_of_eq (a := .ref it) rfl ?_)
  refine wpAny_bind ?_
  refine wpAny_bind (wpAny_bind (wpAny_typeNameOfWhole_valiter ty (wpAny_pure ?_)))
  refine wpAny_bind (wpAny_fieldsOf ho hdat ?_)
  have ow : (if Builtin.Dict_items.ownsTuple "dict_valueiterator" = true then 2 else 0) = 0 := by decide +kernel
  rw [ow]
  refine wpAny_ite_false (by rfl) ?_
  refine wpAny_bind (wpAny_of_eq (a := d) rfl ?_)
  refine wpAny_bind (wpAny_dictEntries hod hodd ?_)
  refine wpAny_ite_false (by simp) ?_
  refine wpAny_bind (wpAny_of_eq (a := d) rfl ?_)
  refine wpAny_bind (wpAny_dictEpoch hod hodd ?_)
  refine wpAny_ite_false (by simp) ?_
  refine wpAny_pure ?_
  have e2 : (if ((es.size : Nat) : Int) < 0 then none else es[((es.size : Nat) : Int).toNat]?) = none := by
    rw [if_neg (by omega)]
    show es[es.size]? = _
    exact Array.getElem?_eq_none (Nat.le_refl _)
  dsimp only
  rw [e2]
  dsimp only
  refine wpAny_bind (wpAny_bind (wpAny_typeNameOfWhole_valiter ty (wpAny_pure ?_)))
  rw [ow]
  refine wpAny_bind (wpAny_setField ho hdat (by show 0 < 4; decide) ?_)
  have sb := Heap.SameBut.update s.heap it (Obj.mapFields fun x => x.setIfInBounds 0 Value.none)
  generalize s.heap.update it (Obj.mapFields fun x => x.setIfInBounds 0 Value.none) = h2 at sb ⊢
  unfold newExc newTuple
  refine wpAny_bind (wpAny_bind (wpAny_newObj_type ?_ (by show 0 ≤ sizeLine; decide)))
  refine wpAny_bind (wpAny_of_eq (a := .none) rfl ?_)
  refine wpAny_newObj_type ?_ (sizeOk_excFields _ _ _ _ _ _ _ _)
  refine wpAny_raiseNew_none (show (Around.in1 A).handled = none from hh) ?_
  exact h _ _ ((sb.extBut.push _).push _) ⟨_, Heap.get?_push_size _ rfl, rfl⟩
theorem draws_val {prog : Program} {w : World} {A : Around} (hh : A.handled = none) (it d : Addr) (ne : d ≠ it) (es : Array DictEntry) (ep : Nat) :
    Draws prog w A it [it, d] es.size (fun i v => ∃ e, es[i]? = some e ∧ v = e.val) fun i h => Heap.IsValIter h it d i es.size ep ∧ Heap.DictRaw h d es ep where
  live := fun i h q => let ⟨o, ho, _⟩ := q.1; ⟨o, ho⟩
  frame := fun i h h' q k => ⟨q.1.at fun o z => k it (by simp) o z, let ⟨o, ho, r⟩ := q.2; ⟨o, k d (by simp) o ho, r⟩⟩
  item := fun i s Q E hi q f => next_val q.1 q.2 hi fun h' x sb => f _ h' s.toks ⟨_, Array.getElem?_eq_getElem hi, rfl⟩
    ⟨x, let ⟨o, ho, r⟩ := q.2; ⟨o, (sb.right d ne).trans ho, r⟩⟩ sb
  done := fun s Q E q f => next_val_end hh q.1 q.2 fun h' e a b => f h' e a b
end Mf
namespace Mf
open PySem L2
abbrev ItV (k₀ : Int) (d : Addr) (o : Obj) (kvs : List (Key × V)) : It :=
  ItN k₀ (fun i H => H d = some (.frz o (.dK kvs)) ∧ i < kvs.length) (fun i H => H d = some (.frz o (.dK kvs)) ∧ kvs.length = i) fun i _ x => ∃ k, kvs[i]? = some (k, x)
theorem pairs_val {prog : Program} {w : World} {knd : KeyKind prog w Key} {es : List DictEntry} {vs : List (Key × Value)} (h : Pairs knd es vs) :
    es.length = vs.length ∧ ∀ (i : Nat) (e : DictEntry), es[i]? = some e → ∃ p, vs[i]? = some p ∧ e.val = p.2 := by
  induction h with
  | nil => exact ⟨rfl, fun i e h => by simp at h⟩
  | cons a b r ih =>
    refine ⟨by rw [List.length_cons, List.length_cons, ih.1], fun i e h => ?_⟩
    match i, h with
    | 0, h =>
      cases h
      exact ⟨_, rfl, b⟩
    | i + 1, h => exact ih.2 i e h
theorem kv_back {kvs : List (Key × V)} {vs : List (Key × Value)} (r : KV kvs vs) {i : Nat} {p : Key × Value} (h : vs[i]? = some p) : ∃ x, RelV x p.2 ∧ ∃ k, kvs[i]? = some (k, x) := by
  have l := Paired.length r
  have hi : i < kvs.length := by
    rcases Nat.lt_or_ge i kvs.length with q | q
    · exact q
    · rw [List.getElem?_eq_none (by omega)] at h; cases h
  obtain ⟨u, hu, ru⟩ := kv_get r (k := kvs[i].1) (v := kvs[i].2) (List.getElem?_eq_getElem hi)
  rw [h] at hu
  cases hu
  exact ⟨_, ru, _, List.getElem?_eq_getElem hi⟩
theorem turn_fromV {P : Program} {w : World} {K : W.Frag} {elts : List Expr} {kk : Nat} {tpos : Pos} (k₀ : Int) (e it d : Addr) {o : Obj} {es : Array DictEntry} {ep : Nat} {kvs : List (Key × V)} (hod : o.data = .dict es ep) :
    Turn P w K (.Tuple elts kk tpos) (ItV k₀ d o kvs) [e, it] e
      fun i h => (∃ old, IsEnum h e it (k₀ + i) old) ∧ Heap.IsValIter h it d i kvs.length ep ∧ e ≠ it := by
  refine turn_from k₀ e it ?_ ?_ ?_
  · rintro i h ⟨o, ho, hc, hd⟩
    exact ⟨o, ho, fun v q => by rw [hd] at q; cases q⟩
  · intro i h h' q k
    exact q.at fun o z => k o z
  · rintro X rfl rfl rfl hc i pins s σ H I hf ⟨old, he⟩ hi ne hg
    have hH : H d = some (.frz o (.dK kvs)) := hg.elim (·.1) (·.1)
    obtain ⟨hs, hgd, hx, es', ep', vs, hdt, hsz, kv, hm⟩ := I.frzK hH
    obtain ⟨rfl, rfl⟩ := dict_ep hod hdt
    obtain ⟨o2, es2, g1, g2, g3, g4, g5, g6⟩ := hm
    rw [hgd] at g1
    cases g1
    obtain ⟨q1, _⟩ := dict_ep hdt g3
    subst q1
    have pv := pairs_val g5
    have n1 : d ≠ it := fun q => by
      obtain ⟨o', ho', hc', hd'⟩ := hi
      rw [← q, hgd] at ho'; cases ho'
      rw [hdt] at hd'; cases hd'
    have n2 : d ≠ e := fun q => by
      have he' : s.heap.get? e = _ := he
      rw [← q, hgd] at he'; cases he'
      cases hdt
    rw [← hsz] at hi
    refine ⟨_, _, _, _, draws_val (show (Around.in1 X.A).handled = none from I.ok.hd hc) it d n1 es2 ep', ⟨hi, ⟨_, hgd, hx, hdt⟩⟩, ?_, ?_, ?_, fun h q => by rw [hsz] at q; exact q.1, ?_⟩
    · intro q
      simp only [List.mem_cons, List.not_mem_nil, or_false] at q
      rcases q with q | q
      · exact ne q
      · exact n2 q.symm
    · rintro ⟨_, q⟩; rw [hsz]; exact q
    · rintro ⟨_, q⟩; rw [hsz]; exact q.symm
    · rintro v ⟨en, hen, rfl⟩ _
      obtain ⟨p, hp, ev⟩ := pv.2 i en (by rw [Array.getElem?_toList]; exact hen)
      rw [ev]
      exact kv_back kv hp
theorem begins_values (v d : Addr) (es : Array DictEntry) (ep : Nat) :
    Begins (.ref v) ⟨.type "dict_valueiterator", none, .fields #[.ref d, .int 0 0, .int (es.size : Nat) 0, .int (ep : Nat) 0], #[]⟩ (fun h => Heap.IsValuesView h v d ∧ Heap.DictRaw h d es ep) where
  iter := fun prog w A E s Q hq q => wpAny_pyIter_values_raw hq.1 hq.2 q
  keeps := by
    rintro h h' ⟨⟨o, a, b, c⟩, o2, g1, g2⟩ k
    exact ⟨⟨o, k _ _ a, b, c⟩, o2, k _ _ g1, g2⟩
  free := rfl
def iEnumV (k₀ : Int) (td : TE) : TI := fun σ H R => td σ H fun x H1 => ∃ d o kvs, x = .ref d ∧ H1 d = some (.frz o (.dK kvs)) ∧ R (ItV k₀ d o kvs) H1
theorem pi_enumV {X : Cx} {e : Expr} {td : TE} {p pos cpos apos tpos kp cq : Pos} {cp : Nat} {elts : List Expr} {kk : Nat} {k₀ : Int} (hg : Gl X "enumerate") (hm : X.mg "enumerate" = none) (he : PE X e td)
    (b0 : -2 ^ 63 ≤ k₀) (b1 : k₀ < 2 ^ 63)
    (hbase : attributeBase e "values" X.env (eval e X.env) = eval e X.env := by rfl) (hline : (apos.endLine == cpos.line) = true := by rfl) :
    PI X (.Tuple elts kk tpos) (.Call (.Name "enumerate" p) [.Call (.Attribute e "values" apos) [] [] cpos] [⟨some "start", .Constant (.int k₀) cp cq, kp⟩] pos) (iEnumV k₀ td) := by
  refine ⟨fun pins s σ H R I h => wpAny_Call_Name_kw (ld_blt I hg hm PyProof.Rows.boot_enumerate (callType_kw ?_ rfl rfl rfl rfl))⟩
  refine Calls.spliced_cons ?_
  refine wpAny_Call_method hbase rfl hline F.plainAttrs_dict F.slot_dict_values F.type_dict_values (thn (he.run pins s σ H _ I h) ?_)
  rintro u s1 ⟨x, H1, I1, rx, d, o, kvs, rfl, hd, q⟩
  have ex : u = .ref d := rx
  subst ex
  obtain ⟨hs, hgd, hx, es, ep, vs, hdt, hsz, kv, hm⟩ := I1.frzK hd
  have hl := Paired.length kv
  refine ⟨hm.dictOf.typeIs, hm.dictOf.mapOf.noDict, ?_⟩
  refine method_meetsIn F.slot_dict_values F.entry_dict_values rfl (evalArgs_none ?_)
  refine ⟨rfl, hm.dictOf.typeIs, F.args_dict_values_1 _, _, meets_dict_values (mixKind X.prog X.w) d hs, ⟨vs, hm.dictOf⟩, ?_⟩
  show wpAny (model X.prog X.w) X.A (spliced []) _ _ _
  refine Calls.spliced_nil ?_
  have I2 := I1.kept (t' := s1.toks) fun b ob q => Heap.get?_push_of_some ⟨.type "dict_values", none, .fields #[.ref d], #[]⟩ q
  refine wpAny_evalAll_cons (wpAny_bind (wpAny_Constant_int (wpAny_bind (wpAny_standAt (wpAny_pure (wpAny_evalAll_nil ?_))))))
  have vw : Heap.IsValuesView (s1.heap.push ⟨.type "dict_values", none, .fields #[.ref d], #[]⟩) s1.heap.objs.size d := ⟨_, Heap.get?_push_size _ rfl, rfl, rfl⟩
  refine enum_begins_start (begins_values s1.heap.objs.size d es ep) ⟨vw, ⟨_, Heap.get?_push_of_some _ hgd, hx, hdt⟩⟩ b0 b1 fun h' he ho hsz2 hk => ?_
  refine wpAny_pyIter_enum he ?_
  have I3 := I2.kept (t' := s1.toks + 1) hk
  refine ⟨_, [(s1.heap.push ⟨.type "dict_values", none, .fields #[.ref d], #[]⟩).objs.size + 1, (s1.heap.push ⟨.type "dict_values", none, .fields #[.ref d], #[]⟩).objs.size], _, _, H1, rfl, I3, turn_fromV k₀ _ _ d hdt, ⟨⟨_, by simpa using he⟩, ⟨_, ho, rfl, by rw [← hsz]; rfl⟩, Nat.succ_ne_self _⟩, ?_, q⟩
  intro b hb
  simp only [List.mem_cons, List.not_mem_nil, or_false] at hb
  rcases hb with rfl | rfl
  · exact I2.fpOk (Nat.le_succ _) (I2.hok.fresh (Nat.le_succ _))
  · exact I2.fpOk (Nat.le_refl _) (I2.hok.fresh (Nat.le_refl _))
theorem walk_enumV {k₀ : Int} {d : Addr} {o : Obj} {kvs : List (Key × V)} :
    Walk (ItV k₀ d o kvs) kvs.length (fun H => H d = some (.frz o (.dK kvs))) (fun i H v H' => ∃ T x k, v = .ref T ∧ H T = none ∧ H' = upd H T (.tup [.int (k₀ + i), x]) ∧ kvs[i]? = some (k, x)) where
  goes := fun i H hi h => ⟨h, hi⟩
  stops := fun H h => ⟨h, rfl⟩
  yields := by
    rintro i H x H' hi h ⟨T, y, rfl, hT, rfl, k, hy⟩
    exact ⟨T, y, k, rfl, hT, rfl, hy⟩
end Mf
namespace Mf
open PySem L2
def top (i : Nat) : Stmt := PySem.Challenge.pw_midfall_k94_bad_histories.main.body.getD i (.Pass ⟨0, 0, 0, 0⟩)
abbrev sSource : Stmt := top 24
abbrev sDraw : Stmt := top 25
section
variable {P : Program} {w : World} {K : PySem.W.Frag} {mg : Str → Option Value} {base : Heap}

/-! ### _law_source -/
def spSource (K : PySem.W.Frag) : Sp := fun vs H Q _ => ∃ (a : Addr) (ns : List Int), vs = [.ref a] ∧ SqL K H a (ns.map V.int) ∧ ns.length ≤ 63 ∧ ∀ p H', H p = none → Same H H' → Src H' p 1000000000 → Q (.ref p) H'
theorem scSource : FnScope ["_law_script", "_law_great", "_law_seed", "_law_k", "_law_cell"] ["_law_script"] (defScope sSource) := ⟨rfl, rfl, rfl, by decide +kernel, rfl, by decide +kernel, by decide +kernel⟩
theorem ok_source {f : Addr} {fd : FuncData} (F : Fun K "_law_source" "_law_source" sSource f fd) (mI : mg "int" = none) (mE : mg "enumerate" = none) : FnOk P w K mg base CX0 1 f fd ["_law_script"] (spSource K) := by
  refine F.ok scSource (fun vs H Q E h => ?_) (fun cdv A outer s H vs Q E hr h => ?_)
  · obtain ⟨a, ns, rfl, _⟩ := h
    rfl
  · obtain ⟨a, ns, rfl, hs, hl, k⟩ := h
    refine ⟨_, pss_cons (ps_set (i := 1) scSource.nd rfl (.inl rfl) pe_int) (pss_cons (ps_set (i := 2) scSource.nd rfl (.inl rfl) pe_int)
      (pss_cons (ps_for PassesOwn.never rfl (pi_enum (by rfl) mE (pa_cons (pv 0) pa_nil)) (pg_tup rfl (pgs_cons (pg_name (i := 3) scSource.nd rfl (.inl rfl)) (pgs_cons (pg_name (i := 4) scSource.nd rfl (.inl rfl)) pgs_nil)))
        (C8.pss_cut (ps_if (PW.pt (pw_and (pt_cmpR op_eq (pv 1) pe_int (nomark _)) (pw_and1 (pt_cmpR op_ge (pv 4) (pe_op op_pow pe_int pe_int) (nomark _))))) (pss_one (ps_set (i := 1) scSource.nd rfl (.inl rfl) (pv 4))) pss_nil)
        (pss_one (ps_set (i := 2) scSource.nd rfl (.inl rfl) (pe_op op_mod (pe_callTy call_int1 (by rfl) mI (by decide +kernel) (pa_cons (pe_op op_add (pe_op op_mul (pe_op op_add (pv 2) (pe_op op_mod (pe_callTy call_int1 (by rfl) mI (by decide +kernel) (pa_cons (pv 4) pa_nil)) pe_int)) pe_int) (pv 3)) pa_nil)) pe_int)))))
      (pss_one (ps_ret (pe_lst (pa_cons (pv 1) (pa_cons (pv 2) (pa_cons pe_int pa_nil)))))))), ?_⟩
    refine ⟨_, rfl, a, _, rfl, hs, ?_⟩
    refine for_it walk_enum (fun i σ H' => ∃ (g s : Int) (vk vc : Option V), σ = [some (.ref a), some (.int g), some (.int s), vk, vc] ∧ 0 ≤ s ∧ s < 2147483647 ∧ Same H H') ⟨0, 104729, none, none, rfl, by decide, by decide, Same.refl H⟩ (fun i σ H' _ h => h.choose_spec.choose_spec.choose_spec.choose_spec.2.2.2.seq hs) ?_ ?_
    · rintro i x σ H1 H2 hi ⟨g, s, vk, vc, rfl, s0, s1, sm⟩ ⟨T, x1, y, rfl, hT, rfl, e1, e2⟩
      obtain rfl : x1 = .int (i : Nat) := (Option.some.inj e1).symm
      have e2 : (ns.map V.int)[i]? = some y := e2
      rw [List.getElem?_map] at e2
      obtain ⟨m, _, rfl⟩ := Option.map_eq_some_iff.mp e2
      refine ⟨T, _, rfl, .of upd_same, rfl, _, _, rfl, _, _, rfl, rfl, ?_⟩
      refine ⟨fun σ' H' => ∃ g' : Int, σ' = [some (.ref a), some (.int g'), some (.int s), some (.int (i : Nat)), some (.int m)] ∧ H' = upd H1 T (.tup [.int (i : Nat), .int m]), ?_, ?_⟩
      · refine ⟨_, rfl, rfl, _, rfl, ite2 (fun _ => ?_) fun _ => ?_⟩
        · refine ⟨_, rfl, _, _, rfl, rfl, ⟨by decide, by decide, by decide⟩, _, _, rfl, rfl, _, rfl, ite2 (fun _ => ?_) fun _ => ?_⟩
          · exact ⟨_, rfl, m, rfl, rfl⟩
          · exact ⟨g, rfl, rfl⟩
        · exact iteF ⟨g, rfl, rfl⟩
      · rintro σ' H' ⟨g', rfl, rfl⟩
        refine ⟨_, rfl, _, rfl, .inl ⟨_, rfl, _, _, rfl, rfl, (by show (0 : Int) < 2147483629; decide), _, _, rfl, rfl, _, _, rfl, rfl, .inr ⟨(by show -(2 ^ 64) < (48271 : Int); decide), (by show (48271 : Int) < 2 ^ 64; decide)⟩, _, rfl, _, _, rfl, rfl, .inl ⟨_, rfl, _, _, rfl, rfl, (by show (0 : Int) < 2147483647; decide), ?_⟩⟩⟩
        exact ⟨_, _, _, _, rfl, Int.emod_nonneg _ (by decide), Int.emod_lt_of_pos _ (by decide), sm.trans (Same.new hT)⟩
    · rintro σ H1 ⟨g, s, vk, vc, rfl, s0, s1, sm⟩
      refine ⟨_, rfl, _, rfl, (by show 3 ≤ sizeLine; decide), fun p hp => ?_⟩
      exact k p _ (sm.free hp) (sm.trans (Same.new hp)) ⟨g, s, 0, upd_same, s0, s1, by decide, by decide⟩

/-! ### _law_draw -/
def spDraw : Sp := fun vs H Q _ => ∃ (a : Addr) (many : Int) (n : Nat), vs = [.ref a, .int many] ∧ 0 < many ∧ many.natAbs < 2 ^ 200 ∧ Src H a (n + 1) ∧ ∀ v H', 0 ≤ v → v < many → Kp a H H' → Src H' a n → Q (.int v) H'
theorem scDraw : FnScope ["_law_source_here", "_law_many", "_law_value", "_law_stirred"] ["_law_source_here", "_law_many"] (defScope sDraw) := ⟨rfl, rfl, rfl, by decide +kernel, rfl, by decide +kernel, by decide +kernel⟩
theorem ok_draw {f : Addr} {fd : FuncData} (F : Fun K "_law_draw" "_law_draw" sDraw f fd) (mI : mg "int" = none) : FnOk P w K mg base CX0 1 f fd ["_law_source_here", "_law_many"] spDraw := by
  refine F.ok scDraw (fun vs H Q E h => ?_) (fun cdv A outer s H vs Q E hr h => ?_)
  · obtain ⟨a, m, n, rfl, _⟩ := h
    rfl
  · obtain ⟨a, many, n, rfl, m0, mb, ⟨g, sd, c, ha, s0, s1, c0, c1⟩, k⟩ := h
    refine ⟨_, pss_cons (ps_if (pt_cmpR op_gt (pe_ix ix_list (pv 0) pe_int (fun _ _ => rfl)) pe_int (nomark _))
        (pss_cons (ps_set (i := 2) scDraw.nd rfl (.inl rfl) (pe_op op_mod (pe_callTy call_int1 (by rfl) mI (by decide +kernel) (pa_cons (pe_ix ix_list (pv 0) pe_int (fun _ _ => rfl)) pa_nil)) (pv 1)))
        (pss_cons (ps_asg (pe_op op_fdivW (pe_ix ix_list (pv 0) pe_int (fun _ _ => rfl)) (pv 1)) (pg_sub (pv 0) pe_int set_list))
        (pss_one (ps_ret (pv 2))))) pss_nil)
      (pss_cons (ps_asg (pe_op op_add (pe_ix ix_list (pv 0) pe_int (fun _ _ => rfl)) pe_int) (pg_sub (pv 0) pe_int set_list))
      (pss_cons (ps_set (i := 3) scDraw.nd rfl (.inl rfl) (pe_op op_mod (pe_callTy call_int1 (by rfl) mI (by decide +kernel) (pa_cons (pe_op op_pow (pe_op op_add (pe_ix ix_list (pv 0) pe_int (fun _ _ => rfl)) (pe_op op_mul pe_int (pe_ix ix_list (pv 0) pe_int (fun _ _ => rfl)))) pe_int) pa_nil)) pe_int))
      (pss_one (ps_ret (pe_op op_mod (pe_callTy call_int1 (by rfl) mI (by decide +kernel) (pa_cons (pe_op op_mod (pe_callTy call_int1 (by rfl) mI (by decide +kernel) (pa_cons (pe_op op_mul (pe_op op_add (pv 3) (pe_ix ix_list (pv 0) pe_int (fun _ _ => rfl))) pe_int) pa_nil)) pe_int) pa_nil)) (pv 1)))))), ?_⟩
    refine ⟨_, rfl, a, _, _, _, rfl, rfl, .of ha, rfl, _, _, rfl, rfl, _, rfl, ite2 (fun _ => ?_) fun _ => ?_⟩
    · refine ⟨_, rfl, a, _, _, _, rfl, rfl, .of ha, rfl, .inl ⟨_, rfl, _, rfl, _, _, rfl, rfl, m0, ?_⟩⟩
      refine ⟨_, rfl, a, _, _, _, rfl, rfl, .of ha, rfl, _, rfl, _, _, rfl, rfl, wide_div m0 mb (by decide) (by decide), _, rfl, a, _, _, 0, rfl, rfl, ha, rfl, _, rfl, ?_⟩
      exact k _ _ (Int.emod_nonneg _ (by omega)) (Int.emod_lt_of_pos _ m0) (Kp.refl.put) ⟨g / many, sd, c, upd_same, s0, s1, c0, by omega⟩
    · refine ⟨_, rfl, a, _, _, _, rfl, rfl, .of ha, rfl, _, _, rfl, rfl, _, rfl, a, _, _, 2, rfl, rfl, ha, rfl, ?_⟩
      have h2 : (upd H a (.lst [.int g, .int sd, .int (c + 1)])) a = some (.lst [.int g, .int sd, .int (c + 1)]) := upd_same
      refine ⟨_, rfl, a, _, _, _, rfl, rfl, .of h2, rfl, _, rfl, a, _, _, _, rfl, rfl, .of h2, rfl, _, _, rfl, rfl, .inl ⟨(by show -(2 ^ 64) < (7919 : Int); decide), (by show (7919 : Int) < 2 ^ 64; decide)⟩, _, _, rfl, rfl, _, _, rfl, rfl, ⟨by decide, by decide, ?_⟩, .inl ⟨_, rfl, _, _, rfl, rfl, (by show (0 : Int) < 2147483647; decide), ?_⟩⟩
      · show (sd + 7919 * (c + 1)).natAbs < 2 ^ 64
        omega
      · refine ⟨_, rfl, _, rfl, a, _, _, _, rfl, rfl, .of h2, rfl, _, _, rfl, rfl, _, _, rfl, rfl, .inr ⟨(by show -(2 ^ 64) < (40692 : Int); decide), (by show (40692 : Int) < 2 ^ 64; decide)⟩, .inl ⟨_, rfl, _, _, rfl, rfl, (by show (0 : Int) < 2147483629; decide), .inl ⟨_, rfl, _, rfl, _, _, rfl, rfl, m0, ?_⟩⟩⟩
        exact k _ _ (Int.emod_nonneg _ (by omega)) (Int.emod_lt_of_pos _ m0) (Kp.refl.put) ⟨g, sd, c + 1, h2, s0, s1, by omega, by omega⟩
end
end Mf
namespace Mf
open PySem L2
section
variable {P : Program} {w : World} {K : PySem.W.Frag} {mg : Str → Option Value} {base : Heap}

/-! ### is_name -/
def nameB (z : Str) : Bool := decide (1 ≤ z.length) && decide (z.length ≤ 8) && z.cps.toList.all fun c => decide (97 ≤ c) && decide (c ≤ 122)
theorem nameB_iff (z : Str) : nameB z = true ↔ IsName z := by
  have h : z.length = z.cps.size := rfl
  unfold nameB IsName
  rw [h, Bool.and_eq_true_iff, Bool.and_eq_true_iff, List.all_eq_true]
  refine ⟨fun ⟨⟨a, b⟩, c⟩ => ⟨of_decide_eq_true a, of_decide_eq_true b, fun x hx => ?_⟩, fun ⟨a, b, c⟩ => ⟨⟨decide_eq_true a, decide_eq_true b⟩, fun x hx => ?_⟩⟩
  · have q := Bool.and_eq_true_iff.mp (c x hx)
    exact ⟨of_decide_eq_true q.1, of_decide_eq_true q.2⟩
  · have q := c x hx
    exact Bool.and_eq_true_iff.mpr ⟨decide_eq_true q.1, decide_eq_true q.2⟩
theorem sign_le (a b : Nat) : (!decide ([b] < [a])) = decide (a ≤ b) := by
  have e : ([b] < [a]) ↔ b < a := by
    rw [List.cons_lt_cons_iff]
    simp
  by_cases h : a ≤ b
  · rw [decide_eq_true h, decide_eq_false (fun q => by have := e.mp q; omega)]; rfl
  · rw [decide_eq_false h, decide_eq_true (e.mpr (by omega))]; rfl
theorem le_of_sign {c : Nat} (q : (!decide ([c] < [97])) = true) : 97 ≤ c := by
  rw [sign_le] at q; exact of_decide_eq_true q
theorem le_sign {c : Nat} (q : 97 ≤ c) : (!decide ([c] < [97])) = true := by
  rw [sign_le]; exact decide_eq_true q
def spIsName : Sp := fun vs H Q _ => ∃ z : Str, vs = [.str z] ∧ z.length ≤ sizeLine ∧ ∀ H', Same H H' → Q (.bl (nameB z)) H'
abbrev sIs_name : Stmt := top 6
theorem scIs_name : FnScope ["value", "letter"] ["value"] (defScope sIs_name) := ⟨rfl, rfl, rfl, by decide +kernel, rfl, by decide +kernel, by decide +kernel⟩
theorem ok_is_name {f : Addr} {fd : FuncData} {t : Tok} (F : Fun K "is_name" "is_name" sIs_name f fd) (mIsi : mg "isinstance" = none) (mStr : mg "str" = none) (mLen : mg "len" = none) (mAll : mg "all" = none) (mg_LONGEST_NAME : mg "LONGEST_NAME" = some (.int 8 t)) : FnOk P w K mg base CX0 1 f fd ["value"] spIsName := by
  refine F.ok scIs_name (fun vs H Q E h => ?_) (fun cdv A outer s H vs Q E hr h => ?_)
  · obtain ⟨z, rfl, _⟩ := h
    rfl
  · obtain ⟨z, rfl, hz, k⟩ := h
    refine ⟨_, (pss_cons (ps_if (PW.pt (pw_or (pt_not (pt_val (pe_callB (k_isi K) (by rfl) mIsi (by decide +kernel) (pa_cons (pv 0) (pa_cons (pe_bltn (v := .ty "str") (by rfl) mStr (by decide +kernel) rfl) pa_nil))))) (pw_or1 (pt_not (pt_chain op_le op_le pe_int (pe_callB call_len_str (by rfl) mLen (by decide +kernel) (pa_cons (pv 0) pa_nil)) (pe_glob (v := .int 8) rfl mg_LONGEST_NAME ⟨_, rfl⟩))))))
        (pss_one (ps_ret pe_bl)) pss_nil)
      (pss_one (ps_ret (pe_callB (k_all K) (by rfl) mAll (by decide +kernel) (pa_cons (pe_lc (own := [("letter", 1)]) (g := (gName 1)) (tt := tYes) rfl scIs_name.nd (pi_str (pv 0)) (blkOk_by (own := [("letter", 1)]) (N := ["value", "letter"]) (sc := defScope sIs_name) (by decide +kernel)) (fun _ _ _ _ _ => (pg_name (i := 1) scIs_name.nd rfl (by first | exact Or.inl rfl | exact Or.inr rfl))) (fun _ _ _ _ _ => pts_nil) (fun _ _ _ _ _ => (pe_chain op_le_str op_le_str pe_str (pv 1) pe_str))) pa_nil))))), ?_⟩
    refine ⟨_, rfl, _, _, _, _, true, rfl, .ty _, .base (.str _), kit_ty (by decide +kernel), _, rfl, iteF ?_⟩
    refine ⟨_, rfl, z, rfl, hz, _, _, rfl, rfl, _, rfl, ite2 (fun a1 => ?_) fun a1 => ?_⟩
    · have b1 : 1 ≤ z.length := by have := of_decide_eq_true a1; omega
      refine ⟨_, _, rfl, rfl, _, rfl, ite2 (fun a2 => ?_) fun a2 => ?_⟩
      · have b2 : ¬ z.length ≤ 8 := fun q => by
          rw [decide_eq_true (by omega : (z.length : Int) ≤ 8)] at a2; cases a2
        have e : nameB z = false := by unfold nameB; rw [decide_eq_false b2, Bool.and_false, Bool.false_and]
        have q := k H (Same.refl H)
        rw [e] at q; exact q
      · have b2 : z.length ≤ 8 := by
          by_cases q : z.length ≤ 8
          · exact q
          · rw [decide_eq_false (by omega : ¬ (z.length : Int) ≤ 8)] at a2; exact absurd a2 (by decide)
        refine ⟨_, rfl, _, rfl, fun D hD => ?_⟩
        refine lc_it walk_str (fun i H' => H' D = some (.lst (((z.cps.toList.take i).map fun c => decide (97 ≤ c) && decide (c ≤ 122)).map V.bl)) ∧ Same H H') ⟨upd_same, Same.new hD⟩ (fun _ _ _ _ => trivial) ?_ ?_
        · rintro i x H4 H5 hi ⟨h4, s4⟩ ⟨rfl, c, hc, rfl⟩
          refine ⟨rfl, yes_then ?_⟩
          have hc' : z.cps.toList[i]? = some c := by rw [Array.getElem?_toList]; exact hc
          have hlen : i < z.length := hi
          have fin : ∀ b : Bool, b = (decide (97 ≤ c) && decide (c ≤ 122)) → ∃ acc, H5 D = some (.lst acc) ∧ acc.length < sizeLine ∧
              upd H5 D (.lst (acc ++ [.bl b])) D = some (.lst (((z.cps.toList.take (i + 1)).map fun c => decide (97 ≤ c) && decide (c ≤ 122)).map V.bl)) ∧ Same H (upd H5 D (.lst (acc ++ [.bl b]))) := by
            rintro b rfl
            refine ⟨_, h4, ?_, ?_, s4.mut hD⟩
            · rw [List.length_map, List.length_map]
              exact Nat.lt_of_le_of_lt (List.length_take_le _ _) (Nat.lt_of_lt_of_le (by omega : i < 9) (by decide))
            · rw [upd_same, List.take_add_one, hc', List.map_append, List.map_append]; rfl
          refine ⟨_, rfl, _, _, rfl, rfl, _, rfl, ite2 (fun q => ?_) fun q => ?_⟩
          · refine ⟨_, _, rfl, rfl, ?_⟩
            refine fin _ ?_
            have e1 : 97 ≤ c := le_of_sign q
            rw [decide_eq_true e1, Bool.true_and]
            exact sign_le c 122
          · refine fin false ?_
            have e1 : ¬ 97 ≤ c := fun h => q (le_sign h)
            rw [decide_eq_false e1, Bool.false_and]
        · rintro H4 ⟨h4, s4⟩
          refine ⟨D, _, rfl, .of h4, ?_⟩
          have e : nameB z = (((z.cps.toList.take z.cps.size).map fun c => decide (97 ≤ c) && decide (c ≤ 122)).all id) := by
            unfold nameB
            rw [decide_eq_true b1, decide_eq_true b2, List.take_of_length_le (by rw [Array.length_toList]; exact Nat.le_refl _), List.all_map]
            rfl
          have q := k H4 s4
          rw [e] at q
          exact q
    · have b1 : ¬ 1 ≤ z.length := fun q => by
        rw [decide_eq_true (by omega : (1 : Int) ≤ z.length)] at a1; exact a1 rfl
      have e : nameB z = false := by unfold nameB; rw [decide_eq_false b1, Bool.false_and, Bool.false_and]
      have q := k H (Same.refl H)
      rw [e] at q
      exact ⟨_, rfl, iteT q⟩
end
end Mf
namespace Mf
open PySem L2
section
variable {P : Program} {w : World} {K : PySem.W.Frag} {mg : Str → Option Value} {base : Heap}
abbrev psD : List Str := ["_law_source_here", "_law_many"]

/-! ### _law_name -/
/-- a drawn name -/
def DrN (z : Str) : Prop := IsName z ∧ (z.cps.size = 6 → z.cps.toList.head? = some 113)
instance (z : Str) : Decidable (DrN z) := by unfold DrN; infer_instance
def spName (K : PySem.W.Frag) : Sp := fun vs H Q _ => ∃ (a t : Addr) (taken : List Str) (n : Nat), vs = [.ref a, .ref t] ∧ Src H a (n + 10) ∧ t ≠ a ∧ SqL K H t (taken.map V.str) ∧ taken.length ≤ 16 ∧
  ∀ z H', DrN z → z ∉ taken → Kp a H H' → Src H' a n → Q (.str z) H'
abbrev sName : Stmt := top 26
theorem scName : FnScope ["_law_source_here", "_law_taken", "_law_size", "_law_name_here", "_law_k", "_law_one", "_law_letter"] ["_law_source_here", "_law_taken"] (defScope sName) := ⟨rfl, rfl, rfl, by decide +kernel, rfl, by decide +kernel, by decide +kernel⟩
def zAt (c : Nat) : Str := ("z" : Str) ++ ⟨#[c]⟩
theorem zAt_name {c : Nat} (h : Low c) : IsName (zAt c) := by
  have e : (zAt c).cps.toList = [122, c] := str_add _ _
  refine ⟨?_, ?_, ?_⟩
  · rw [← Array.length_toList, e]; exact (by decide : 1 ≤ 2)
  · rw [← Array.length_toList, e]; exact (by decide : 2 ≤ 8)
  · rw [e]; intro d hd
    rcases List.mem_cons.mp hd with rfl | hd
    · unfold Low; omega
    · rw [List.mem_singleton.mp hd]; exact h
theorem zAt_dr {c : Nat} (h : Low c) : DrN (zAt c) := ⟨zAt_name h, fun l => by
  have e : (zAt c).cps.toList = [122, c] := str_add _ _
  rw [← Array.length_toList, e] at l
  exact absurd l (by show ¬ (2 = 6); decide)⟩
theorem zAt_inj {c d : Nat} (h : zAt c = zAt d) : c = d := by
  have e : (zAt c).cps.toList = (zAt d).cps.toList := by rw [h]
  have e1 : (zAt c).cps.toList = [122, c] := str_add _ _
  have e2 : (zAt d).cps.toList = [122, d] := str_add _ _
  rw [e1, e2] at e
  simpa using e
theorem sizes_at {v : Int} (h0 : 0 ≤ v) (h : v < 13) : ∃ m : Nat, atI [V.int 8, .int 4, .int 5, .int 6, .int 7, .int 1, .int 2, .int 3, .int 1, .int 2, .int 3, .int 1, .int 2] v = some (.int (m : Nat)) ∧ 1 ≤ m ∧ m ≤ 8 := by
  obtain ⟨n, rfl⟩ := Int.eq_ofNat_of_zero_le h0
  have e : ∀ n : Fin 13, atI [V.int 8, .int 4, .int 5, .int 6, .int 7, .int 1, .int 2, .int 3, .int 1, .int 2, .int 3, .int 1, .int 2] ((n.val : Nat) : Int) = some (.int (([8, 4, 5, 6, 7, 1, 2, 3, 1, 2, 3, 1, 2].getD n.val 0 : Nat))) ∧ 1 ≤ ([8, 4, 5, 6, 7, 1, 2, 3, 1, 2, 3, 1, 2].getD n.val 0) ∧ ([8, 4, 5, 6, 7, 1, 2, 3, 1, 2, 3, 1, 2].getD n.val 0) ≤ 8 := by decide +kernel
  exact ⟨_, e ⟨n, by omega⟩⟩
theorem cut_q {z : Str} (h : IsName z) (h8 : z.length < 8) : DrN (("q" : Str) ++ cutS z (some 1) none) := by
  have hz : z.cps.toList.length = z.length := Array.length_toList
  have e : (("q" : Str) ++ cutS z (some 1) none).cps.toList = 113 :: (z.cps.toList.drop (HT.sIx z.length 0 (some 1))).take (HT.sIx z.length z.length none - HT.sIx z.length 0 (some 1)) := str_add _ _
  have l : (z.cps.toList.drop (HT.sIx z.length 0 (some 1))).take (HT.sIx z.length z.length none - HT.sIx z.length 0 (some 1)) ⊆ z.cps.toList := fun c hc => List.mem_of_mem_drop (List.mem_of_mem_take hc)
  have b : ((z.cps.toList.drop (HT.sIx z.length 0 (some 1))).take (HT.sIx z.length z.length none - HT.sIx z.length 0 (some 1))).length ≤ 7 := by
    rw [List.length_take, List.length_drop, hz]; omega
  refine ⟨⟨?_, ?_, ?_⟩, fun _ => by rw [e]; rfl⟩
  · rw [← Array.length_toList, e, List.length_cons]; omega
  · rw [← Array.length_toList, e, List.length_cons]; omega
  · rw [e]; intro c hc
    rcases List.mem_cons.mp hc with rfl | hc
    · unfold Low; omega
    · exact h.2.2 c (l hc)
theorem kinds_names : ∀ z ∈ ([("read" : Str), "call", "say", "try"] : List Str), DrN z := by decide +kernel
theorem zs_fresh {taken : List Str} (h : taken.length ≤ 16) : (("abcdefghijklmnopq" : Str).cps.toList.map zAt).filter (fun z => !decide (z ∈ taken)) ≠ [] := by
  intro e
  have sub : (("abcdefghijklmnopq" : Str).cps.toList.map zAt) ⊆ taken := fun z hz => by
    refine Classical.byContradiction fun n => ?_
    have m : z ∈ (("abcdefghijklmnopq" : Str).cps.toList.map zAt).filter (fun z => !decide (z ∈ taken)) := List.mem_filter.mpr ⟨hz, by simp [n]⟩
    rw [e] at m
    cases m
  have nd : (("abcdefghijklmnopq" : Str).cps.toList.map zAt).Nodup := by
    refine List.Pairwise.map _ (fun a b (n : a ≠ b) q => n (zAt_inj q)) ?_
    show (("abcdefghijklmnopq" : Str).cps.toList).Nodup
    decide +kernel
  have l := nodup_le nd sub
  rw [List.length_map] at l
  have : ("abcdefghijklmnopq" : Str).cps.toList.length = 17 := by decide +kernel
  omega
theorem ok_name {f : Addr} {fd : FuncData} (F : Fun K "_law_name" "_law_name" sName f fd) (c_draw : Cal P w K mg base CX0 1 "_law_draw" psD spDraw) (mRange : mg "range" = none) : FnOk P w K mg base CX0 2 f fd ["_law_source_here", "_law_taken"] (spName K) := by
  refine F.ok scName (fun vs H Q E h => ?_) (fun cdv A outer s H vs Q E hr h => ?_)
  · obtain ⟨a, t, taken, n, rfl, _⟩ := h
    rfl
  · obtain ⟨a, t, taken, n, rfl, S, ta, ht, tl, k⟩ := h
    have hr_draw : Room 1 (A.deeper (PyProof.Rows.envOfC "_law_name" (defScope sName) s.heap.objs.size f cdv)) := hr
    refine ⟨_, (pss_cons (ps_set (i := 2) scName.nd rfl (by first | exact Or.inl rfl | exact Or.inr rfl) (pe_ix (ixl K) (pe_lst (pa_cons pe_int (pa_cons pe_int (pa_cons pe_int (pa_cons pe_int (pa_cons pe_int (pa_cons pe_int (pa_cons pe_int (pa_cons pe_int (pa_cons pe_int (pa_cons pe_int (pa_cons pe_int (pa_cons pe_int (pa_cons pe_int pa_nil)))))))))))))) (pe_cal c_draw hr_draw pass0 (pa_cons (pv 0) (pa_cons pe_int pa_nil))) (fun _ _ => rfl)))
      (pss_cons (ps_set (i := 3) scName.nd rfl (by first | exact Or.inl rfl | exact Or.inr rfl) (pe_join pe_str (pe_lc (own := [("_law_k", 4)]) (g := (gName 4)) (tt := tYes) rfl scName.nd (pi_range1 (by rfl) mRange (pa_cons (pv 2) pa_nil)) (blkOk_by (own := [("_law_k", 4)]) (N := ["_law_source_here", "_law_taken", "_law_size", "_law_name_here", "_law_k", "_law_one", "_law_letter"]) (sc := defScope sName) (by decide +kernel)) (fun _ _ _ _ _ => (pg_name (i := 4) scName.nd rfl (by first | exact Or.inl rfl | exact Or.inr rfl))) (fun _ _ _ _ _ => pts_nil) (fun _ _ _ _ _ => (pe_ix ix_str pe_str (pe_cal c_draw hr_draw pass0 (pa_cons (pv 0) (pa_cons pe_int pa_nil))) (fun _ _ => rfl))))))
      (C8.pss_cut (ps_if (pt_chain op_lt op_lt pe_int (pv 2) pe_int)
        (pss_one (ps_set (i := 3) scName.nd rfl (by first | exact Or.inl rfl | exact Or.inr rfl) (pe_ix (ixl K) (pe_lst (pa_cons pe_str (pa_cons pe_str (pa_cons pe_str (pa_cons pe_str (pa_cons (pe_op op_add_str pe_str (pe_slice sl_str (pv 3) (po_some pe_int) po_none)) pa_nil)))))) (pe_cal c_draw hr_draw pass0 (pa_cons (pv 0) (pa_cons pe_int pa_nil))) (fun _ _ => rfl)))) pss_nil)
      (pss_cons (ps_if (pt_cmpR (nin K) (pv 3) (pv 1) (by rfl))
        (pss_one (ps_ret (pv 3))) pss_nil)
      (pss_one (ps_ret (pe_ix (ixl K) (pe_lc (own := [("_law_one", 5)]) (g := (gName 5)) rfl scName.nd (pi_list (pe_lc (own := [("_law_letter", 6)]) (g := (gName 6)) (tt := tYes) rfl scName.nd (pi_str pe_str) (blkOk_by (own := [("_law_letter", 6)]) (N := ["_law_source_here", "_law_taken", "_law_size", "_law_name_here", "_law_k", "_law_one", "_law_letter"]) (sc := defScope sName) (by decide +kernel)) (fun _ _ _ _ _ => (pg_name (i := 6) scName.nd rfl (by first | exact Or.inl rfl | exact Or.inr rfl))) (fun _ _ _ _ _ => pts_nil) (fun _ _ _ _ _ => (pe_op op_add_str pe_str (pv 6))))) (blkOk_by (own := [("_law_one", 5)]) (N := ["_law_source_here", "_law_taken", "_law_size", "_law_name_here", "_law_k", "_law_one", "_law_letter"]) (sc := defScope sName) (by decide +kernel)) (fun _ _ _ _ _ => (pg_name (i := 5) scName.nd rfl (by first | exact Or.inl rfl | exact Or.inr rfl))) (fun _ _ _ _ _ => pts_one (pt_cmpR (nin K) (pv 5) (pv 1) (by rfl))) (fun _ _ _ _ _ => (pv 5))) pe_int (fun _ _ => rfl)))))))), ?_⟩
    refine ⟨(by show 13 ≤ sizeLine; decide), fun l hl => ⟨_, rfl, a, 13, n + 9, rfl, by decide, by decide, S.new hl, fun v H1 v0 v1 k1 S1 => ?_⟩⟩
    obtain ⟨m, hm, m1, m8⟩ := sizes_at v0 v1
    refine ⟨l, _, v, _, rfl, rfl, .of (k1 _ _ (S.ne hl) upd_same), hm, ?_⟩
    have k1 : Kp a H H1 := (Kp.new hl).trans k1
    refine ⟨⟨_, rfl⟩, _, rfl, m, rfl, by omega, by omega, fun D hD => ?_⟩
    refine lc_range (lo := 0) (n := m) (fun i H' => ∃ cs : List Nat, cs.length = i ∧ (∀ c ∈ cs, Low c) ∧ H' D = some (.lst (cs.map fun c => V.str ⟨#[c]⟩)) ∧ Kp a H1 H' ∧ Src H' a (n + 9 - i) ∧ D ≠ a) ⟨[], rfl, (by simp), upd_same, Kp.new hD, S1.new hD, S1.ne hD⟩ ?_ ?_
    · rintro i H2 hi ⟨cs, hc, low, h2, k2, S2, Da⟩
      refine ⟨rfl, yes_then ?_⟩
      refine ⟨_, rfl, a, 26, n + 8 - i, rfl, by decide, by decide, S2.mono (by omega), fun v H3 v0 v1 k3 S3 => ?_⟩
      obtain ⟨c, hcc, lc⟩ := alpha_at v0 v1
      refine ⟨_, v, c, rfl, rfl, (by show 26 ≤ sizeLine; decide), hcc, _, k3 _ _ Da h2, (by rw [List.length_map, hc]; exact Nat.lt_of_lt_of_le (by omega : i < 9) (by decide)), cs ++ [c], by rw [List.length_append, hc]; rfl, fun d hd => ?_, ?_, ?_, ?_, Da⟩
      · rcases List.mem_append.mp hd with hd | hd
        · exact low d hd
        · rw [List.mem_singleton.mp hd]; exact lc
      · rw [upd_same, List.map_append]; rfl
      · exact (k2.trans k3).mut (H := H1) hD
      · exact (S3.put Da).mono (by omega)
    · rintro H2 ⟨cs, hc, low, h2, k2, S2, Da⟩
      have e1 : (cs.map fun c => V.str ⟨#[c]⟩) = ((cs.map fun c => (⟨#[c]⟩ : Str)).map V.str) := by rw [List.map_map]; rfl
      rw [e1] at h2
      have one : ∀ y ∈ cs.map (fun c => (⟨#[c]⟩ : Str)), y.length ≤ 1 := fun y hy => by
        obtain ⟨c, _, rfl⟩ := List.mem_map.mp hy
        exact Nat.le_refl 1
      refine ⟨_, D, _, rfl, rfl, .inl (.of h2), ?_, ?_⟩
      · have q := sum_len one
        rw [List.length_map] at q ⊢
        show _ + cs.length * 0 ≤ _
        omega
      rw [join_signs]
      have nm : IsName (⟨cs.toArray⟩ : Str) := ⟨by show 1 ≤ cs.toArray.size; simp; omega, by show cs.toArray.size ≤ 8; simp; omega, fun c hc => low c (by simpa using hc)⟩
      have sz : (⟨cs.toArray⟩ : Str).cps.size = m := by show cs.toArray.size = m; simp; omega
      generalize (⟨cs.toArray⟩ : Str) = z at nm sz
      have k2 : Kp a H H2 := k1.trans k2
      refine ⟨fun σ' H' => ∃ z, σ' = [some (.ref a), some (.ref t), some (.int (m : Nat)), some (.str z), none, none, none] ∧ DrN z ∧ Kp a H H' ∧ Src H' a n, ?_, ?_⟩
      · refine ⟨_, rfl, _, _, rfl, rfl, _, rfl, ite2 (fun h3 => ?_) fun n3 => ?_⟩
        · refine ⟨_, _, rfl, rfl, _, rfl, ite2 (fun h8 => ?_) fun n8 => ?_⟩
          · have m7 : (m : Int) < 8 := of_decide_eq_true h8
            refine ⟨_, rfl, _, rfl, z, rfl, Nat.le_trans nm.len (by decide), _, _, rfl, rfl, ?_, ?_⟩
            · have q := cutS_length z (some 1) none
              have q2 := nm.len
              show 1 + _ ≤ _
              exact Nat.le_trans (by omega : _ ≤ 9) (by decide)
            refine ⟨(by show 5 ≤ sizeLine; decide), fun l2 hl2 => ⟨_, rfl, a, 5, n, rfl, by decide, by decide, (S2.mono (by omega : n + 1 ≤ n + 9 - m)).new hl2, fun v H3 v0 v1 k3 S3 => ?_⟩⟩
            obtain ⟨x, hx, hat⟩ := atI_mem (xs := [V.str "read", .str "call", .str "say", .str "try", .str (("q" : Str) ++ cutS z (some 1) none)]) v0 v1
            have hx' : ∃ y, x = .str y ∧ DrN y := by
              have kk := kinds_names
              simp only [List.mem_cons, List.not_mem_nil, or_false] at hx kk
              rcases hx with rfl | rfl | rfl | rfl | rfl
              · exact ⟨_, rfl, kk _ (by simp)⟩
              · exact ⟨_, rfl, kk _ (by simp)⟩
              · exact ⟨_, rfl, kk _ (by simp)⟩
              · exact ⟨_, rfl, kk _ (by simp)⟩
              · exact ⟨_, rfl, cut_q nm (by have : z.length = z.cps.size := rfl; omega)⟩
            obtain ⟨y, rfl, ny⟩ := hx'
            exact ⟨l2, _, v, _, rfl, rfl, .of (k3 _ _ (S2.ne hl2) upd_same), hat, y, rfl, ny, (k2.trans (Kp.new hl2)).trans k3, S3⟩
          · exact ⟨z, rfl, ⟨nm, fun l => absurd (decide_eq_true (by omega)) n8⟩, k2, S2.mono (by omega)⟩
        · exact ⟨_, rfl, iteF ⟨z, rfl, ⟨nm, fun l => absurd (decide_eq_true (by omega)) n3⟩, k2, S2.mono (by omega)⟩⟩
      · rintro σ' H3 ⟨z, rfl, nm, k3, S3⟩
        have ht3 := k3.lst ta ht
        have fl : (taken.map V.str).all flatV = true := by rw [List.all_map]; exact List.all_eq_true.mpr fun _ _ => rfl
        refine ⟨_, rfl, _, rfl, t, _, rfl, .inl ht3, rfl, fl, _, rfl, ?_⟩
        show if (!inV (.str z) (taken.map V.str)) = true then _ else _
        rw [inV_str]
        by_cases hz : z ∈ taken
        · rw [decide_eq_true hz]
          refine iteF ?_
          refine ⟨_, rfl, fun E1 hE1 => ?_⟩
          refine lc_it walk_str (fun i H' => H' E1 = some (.lst ((("abcdefghijklmnopq" : Str).cps.toList.take i).map fun c => V.str (zAt c))) ∧ Kp a H3 H' ∧ Src H' a n) ⟨upd_same, Kp.new hE1, S3.new hE1⟩ (fun _ _ _ _ => trivial) ?_ ?_
          · rintro i x H4 _ hi ⟨h4, k4, S4⟩ ⟨rfl, c, hc, rfl⟩
            refine ⟨rfl, yes_then ?_⟩
            refine ⟨_, rfl, _, _, rfl, rfl, (by show 1 + 1 ≤ sizeLine; decide), _, h4, ?_, ?_, ?_, ?_⟩
            · rw [List.length_map]
              exact Nat.lt_of_le_of_lt (List.length_take_le _ _) (Nat.lt_of_lt_of_le (show i < 17 from hi) (by decide))
            · rw [upd_same, List.take_add_one, List.map_append]
              have e : ("abcdefghijklmnopq" : Str).cps.toList[i]? = some c := by rw [Array.getElem?_toList]; exact hc
              rw [e]; rfl
            · exact k4.mut hE1
            · exact S4.put (S3.ne hE1)
          · rintro H4 ⟨h4, k4, S4⟩
            have e17 : (("abcdefghijklmnopq" : Str).cps.toList.take ("abcdefghijklmnopq" : Str).cps.size).map (fun c => V.str (zAt c)) = (("abcdefghijklmnopq" : Str).cps.toList.map zAt).map V.str := by
              rw [List.take_of_length_le (by rw [Array.length_toList]; exact Nat.le_refl _), List.map_map]; rfl
            rw [e17] at h4
            have low : ∀ z ∈ ("abcdefghijklmnopq" : Str).cps.toList.map zAt, DrN z := fun z hz => by
              obtain ⟨c, hc, rfl⟩ := List.mem_map.mp hz
              refine zAt_dr ?_
              have all : ∀ c ∈ ("abcdefghijklmnopq" : Str).cps.toList, 97 ≤ c ∧ c ≤ 122 := by decide +kernel
              exact all c hc
            have fresh := zs_fresh tl
            have len17 : (("abcdefghijklmnopq" : Str).cps.toList.map zAt).length = 17 := by decide +kernel
            generalize ("abcdefghijklmnopq" : Str).cps.toList.map zAt = zs at h4 low fresh len17
            refine ⟨E1, rfl, ⟨_, .of h4⟩, fun E2 hE2 => ?_⟩
            have n21 : E1 ≠ E2 := Ne.symm (ne_none hE2 h4)
            refine lc_it walk_list (fun i H' => H' E2 = some (.lst (((zs.take i).filter fun z => !decide (z ∈ taken)).map V.str)) ∧ Kp a H4 H' ∧ Src H' a n) ⟨upd_same, Kp.new hE2, S4.new hE2⟩ (fun i H' _ q => .of (q.2.1 _ _ (by exact ne_none hE1 (show H3 a = some _ from S3.choose_spec.choose_spec.choose_spec.1)) h4)) ?_ ?_
            · rintro i x H5 _ hi ⟨h5, k5, S5⟩ ⟨rfl, hx⟩
              rw [List.getElem?_map] at hx
              obtain ⟨y, hy, rfl⟩ := Option.map_eq_some_iff.mp hx
              have ht5 := (k4.trans k5).lst ta ht3
              have tk : zs.take (i + 1) = zs.take i ++ [y] := by rw [List.take_add_one, hy]; rfl
              refine ⟨rfl, _, rfl, _, rfl, t, _, rfl, .inl ht5, rfl, fl, _, rfl, ?_⟩
              show if (!inV (.str y) (taken.map V.str)) = true then _ else _
              rw [inV_str]
              by_cases hz : y ∈ taken
              · rw [decide_eq_true hz]
                refine iteF ⟨?_, k5, S5⟩
                rw [tk, List.filter_append, List.filter_cons_of_neg (by simp [hz]), List.filter_nil, List.append_nil]
                exact h5
              · rw [decide_eq_false hz]
                refine iteT ⟨_, rfl, _, h5, ?_, ?_, k5.mut hE2, S5.put (S4.ne hE2)⟩
                · rw [List.length_map]
                  refine Nat.lt_of_le_of_lt (Nat.le_trans (List.length_filter_le _ _) (List.length_take_le _ _)) (Nat.lt_of_lt_of_le (show i < 17 by rw [List.length_map, len17] at hi; exact hi) (by decide))
                · rw [upd_same, tk, List.filter_append, List.filter_cons_of_pos (by simp [hz]), List.filter_nil, List.map_append]
                  rfl
            · rintro H5 ⟨h5, k5, S5⟩
              rw [List.length_map, List.take_length] at h5
              have nice : ∀ z ∈ zs.filter (fun z => !decide (z ∈ taken)), DrN z ∧ z ∉ taken := fun z hz => by
                obtain ⟨m1, m2⟩ := List.mem_filter.mp hz
                exact ⟨low z m1, by simpa using m2⟩
              generalize zs.filter (fun z => !decide (z ∈ taken)) = fs at fresh nice h5
              rcases fs with _ | ⟨y, ys⟩
              · exact absurd rfl fresh
              · obtain ⟨n1, n2⟩ := nice y List.mem_cons_self
                exact ⟨E2, _, 0, .str y, rfl, rfl, .of h5, atI_nat (j := 0) rfl, k y H5 n1 n2 ((k3.trans k4).trans k5) S5⟩
        · rw [decide_eq_false hz]
          exact iteT ⟨_, rfl, k z H3 nm hz k3 S3⟩
def spNames : Sp := fun vs H Q _ => ∃ (a : Addr) (many n : Nat), vs = [.ref a, .int many] ∧ many ≤ 16 ∧ Src H a (n + 10 * many) ∧
  ∀ (p : Addr) (zs : List Str) (H' : Hp), zs.length = many → zs.Nodup → (∀ z ∈ zs, DrN z) → H p = none → H' p = some (.lst (zs.map V.str)) → Kp a H H' → Src H' a n → Q (.ref p) H'
abbrev sNames : Stmt := top 27
theorem scNames : FnScope ["_law_source_here", "_law_many", "_law_names_here", "_law_k"] ["_law_source_here", "_law_many"] (defScope sNames) := ⟨rfl, rfl, rfl, by decide +kernel, rfl, by decide +kernel, by decide +kernel⟩
theorem ok_names {f : Addr} {fd : FuncData} (F : Fun K "_law_names" "_law_names" sNames f fd) (c_name : Cal P w K mg base CX0 2 "_law_name" ["_law_source_here", "_law_taken"] (spName K)) (mRange : mg "range" = none) (mList : mg "list" = none) : FnOk P w K mg base CX0 3 f fd ["_law_source_here", "_law_many"] spNames := by
  refine F.ok scNames (fun vs H Q E h => ?_) (fun cdv A outer s H vs Q E hr h => ?_)
  · obtain ⟨a, many, n, rfl, _⟩ := h
    rfl
  · obtain ⟨a, many, n, rfl, m16, S, k⟩ := h
    have hr_name := hr
    refine ⟨_, (pss_cons (ps_set (i := 2) scNames.nd rfl (by first | exact Or.inl rfl | exact Or.inr rfl) (pe_lst pa_nil))
      (pss_cons (ps_for PassesOwn.never rfl (pi_range1 (by rfl) mRange (pa_cons (pv 1) pa_nil)) (pg_name (i := 3) scNames.nd rfl (by first | exact Or.inl rfl | exact Or.inr rfl))
        (pss_one (ps_expr (pe_bm PySem.F.plainAttrs_list PySem.F.slot_list_append PySem.F.type_list_append mt_append (pv 2) (pa_cons (pe_cal c_name hr_name pass0 (pa_cons (pv 0) (pa_cons (pe_callTy (k_list K) (by rfl) mList (by decide +kernel) (pa_cons (pv 2) pa_nil)) pa_nil))) pa_nil)))))
      (pss_one (ps_ret (pv 2))))), ?_⟩
    refine ⟨(by show 0 ≤ sizeLine; decide), fun p hp => ⟨_, rfl, many, rfl, by omega, by omega, ?_⟩⟩
    refine for_range (lo := 0) (n := many) (fun i σ H' => ∃ (zs : List Str) (vk : Option V), σ = [some (.ref a), some (.int many), some (.ref p), vk] ∧ zs.length = i ∧ zs.Nodup ∧ (∀ z ∈ zs, DrN z) ∧ H' p = some (.lst (zs.map V.str)) ∧ Kp a H H' ∧ Src H' a (n + 10 * (many - i)))
      ⟨[], none, rfl, rfl, List.nodup_nil, (by simp), upd_same, Kp.new hp, S.new hp⟩ ?_ ?_
    · rintro i σ H1 hi ⟨zs, vk, rfl, hl, nd, nm, h1, k1, S1⟩
      have pa : p ≠ a := S.ne hp
      refine ⟨_, rfl, .inl ⟨rfl, _, .of h1⟩, _, rfl, _, rfl, p, _, rfl, .inl (.of h1), fun l hl' => ?_⟩
      refine ⟨a, l, zs, n + 10 * (many - (i + 1)), rfl, (S1.new hl').mono (by omega), S1.ne hl', .of upd_same, by omega, fun z H2 nz fz k2 S2 => ?_⟩
      have h2 : H2 p = some (.lst (zs.map V.str)) := k2 _ _ pa ((Same.new hl') _ _ h1)
      refine ⟨p, _, _, rfl, rfl, h2, ?_, ?_⟩
      · rw [List.length_map]
        exact Nat.lt_of_lt_of_le (by omega : zs.length < 16) (by decide)
      · refine ⟨zs ++ [z], _, rfl, by rw [List.length_append, hl]; rfl, ?_, fun y hy => ?_, by rw [upd_same, List.map_append]; rfl, ?_, S2.put pa⟩
        · exact List.nodup_append.mpr ⟨nd, List.nodup_cons.mpr ⟨by simp, List.nodup_nil⟩, fun y hy u hu e => fz (by rw [List.mem_singleton.mp hu] at e; exact e ▸ hy)⟩
        · rcases List.mem_append.mp hy with hy | hy
          · exact nm y hy
          · rw [List.mem_singleton.mp hy]; exact nz
        · exact ((k1.trans (Kp.new hl')).trans k2).mut hp
    · rintro σ H1 ⟨zs, vk, rfl, hl, nd, nm, h1, k1, S1⟩
      exact ⟨_, rfl, k p zs H1 hl nd nm hp h1 k1 (S1.mono (by omega))⟩
end
end Mf
namespace Mf
open PySem L2
/-! ### the class NameSet -/
def flM (t : Addr) : List (Str × V) := putF "members" (.ref t) []
theorem flM_get (t : Addr) : (flM t).lookup ("members" : Str) = some (.ref t) := by
  unfold flM
  rw [lookup_putF, if_pos rfl]
/-- a NameSet stands at p, its members ms -/
def NSet (C : Addr) (H : Hp) (p : Addr) (ms : List Str) : Prop := ∃ dx t, H p = some (.ins C dx (flM t)) ∧ H t = some (.tup (ms.map V.str)) ∧ Up ms ∧ ms.length < 4000 ∧ ∀ z ∈ ms, PyData.strOk z = true
theorem NSet.same {C : Addr} {H H' : Hp} {p : Addr} {ms : List Str} (h : NSet C H p ms) (s : Same H H') : NSet C H' p ms := let ⟨dx, t, a, b, c⟩ := h; ⟨dx, t, s _ _ a, s _ _ b, c⟩
theorem NSet.kp {C a : Addr} {H H' : Hp} {p : Addr} {ms : List Str} {n : Nat} (h : NSet C H p ms) (s : Kp a H H') (S : Src H a n) : NSet C H' p ms :=
  let ⟨dx, t, x, y, c⟩ := h
  let ⟨_, _, _, e, _⟩ := S
  ⟨dx, t, s _ _ (ne_of x e (by intro z; cases z)) x, s _ _ (ne_of y e (by intro z; cases z)) y, c⟩
structure NsC (K : PySem.W.Frag) (mg : Str → Option Value) (C : Addr) : Prop where
  ins : C8.InsC K C
  nM : NoAttr K C "members"
  mgC : mg "NameSet" = some (.ref C)
  kL : PySem.W.kitOne K (.type "list") (.ref C) = some false
  kT : PySem.W.kitOne K (.type "tuple") (.ref C) = some false
  bT : PySem.W.notFirst K C (.type "tuple") = true
  bL : PySem.W.notFirst K C (.type "list") = true
  mIsi : mg "isinstance" = none
  mTuple : mg "tuple" = none
  mSorted : mg "sorted" = none
  mSet : mg "set" = none
  mAll : mg "all" = none
  mLen : mg "len" = none
/-- what NameSet(..) takes -/
inductive ArgS (K : PySem.W.Frag) (C : Addr) (H : Hp) : V → List Str → Prop
  | lst {a : Addr} {xs : List Str} (e : H a = some (.lst (xs.map V.str))) : ArgS K C H (.ref a) xs
  | tup {a : Addr} {xs : List Str} (e : H a = some (.tup (xs.map V.str))) : ArgS K C H (.ref a) xs
  | emp {a : Addr} {o : Obj} (e : K.lookup a = some o) (c : o.cls = .type "tuple") (s : ∀ H, SqT K H a []) : ArgS K C H (.ref a) []
  | own {a : Addr} {xs : List Str} (e : NSet C H a xs) : ArgS K C H (.ref a) xs
section
variable {P : Program} {w : World} {K : PySem.W.Frag} {mg : Str → Option Value} {base : Heap} {C : Addr}
theorem NsC.isi {H : Hp} {p : Addr} {dx : Addr} {fs : List (Str × V)} (T : NsC K mg C) (h : H p = some (.ins C dx fs)) : TyX K H (.ref p) (.ref C) := .base (.ins h T.ins.cl T.ins.ha T.ins.hn T.ins.htk T.ins.hm)

def spNsInit (K : PySem.W.Frag) (C : Addr) : Sp := fun vs H Q _ => ∃ (p dx : Addr) (x : V) (xs : List Str), vs = [.ref p, x] ∧ H p = some (.ins C dx []) ∧ ArgS K C H x xs ∧ xs.length < 4000 ∧
  ∀ t ms H', Up ms → (∀ z, z ∈ ms ↔ z ∈ xs) → H' p = some (.ins C dx (flM t)) → H' t = some (.tup (ms.map V.str)) → (∀ b o, b ≠ p → H b = some o → H' b = some o) → Q .non H'
abbrev sNameSetInit : Stmt := inClass (top 8) 0
theorem scNameSetInit : FnScope ["self", "names"] ["self", "names"] (defScope sNameSetInit) := ⟨rfl, rfl, rfl, by decide +kernel, rfl, by decide +kernel, by decide +kernel⟩
theorem ok_nsInit {f : Addr} {fd : FuncData} {dvs : List V} {kws : List (Str × V)} {ar : Arguments} (F : FunD K "__init__" "NameSet.__init__" ar (defBody sNameSetInit) (defScope sNameSetInit) dvs kws f fd) (T : NsC K mg C) : FnOk P w K mg base CX0 1 f fd ["self", "names"] (spNsInit K C) := by
  refine F.ok scNameSetInit (fun vs H Q E h => ?_) (fun cdv A outer s H vs Q E hr h => ?_)
  · obtain ⟨p, dx, x, xs, rfl, _⟩ := h
    rfl
  · obtain ⟨p, dx, x, xs, rfl, hp, ax, few, k⟩ := h
    have mIsi := T.mIsi; have mg_NameSet := T.mgC; have mTuple := T.mTuple; have mSorted := T.mSorted; have mSet := T.mSet
    refine ⟨_, (C8.pss_cut (ps_if (pt_val (pe_callB (k_isi K) (by rfl) mIsi (by decide +kernel) (pa_cons (pv 1) (pa_cons (pe_glob (v := .ref _) rfl mg_NameSet rfl) pa_nil))))
        (pss_one (ps_set (i := 1) scNameSetInit.nd rfl (by first | exact Or.inl rfl | exact Or.inr rfl) (fldK K (pv 1)))) pss_nil)
      (pss_one (ps_fld (pv 0) (pe_callTy (k_tuple K) (by rfl) mTuple (by decide +kernel) (pa_cons (pe_callB (cr_sortedX rfl) (by rfl) mSorted (by decide +kernel) (pa_cons (pe_callTy (cr_setS rfl) (by rfl) mSet (by decide +kernel) (pa_cons (pv 1) pa_nil)) pa_nil)) pa_nil)) rfl))), ?_⟩
    refine ⟨fun σ' H' => H' = H ∧ ∃ c, σ' = [some (.ref p), some (.ref c)] ∧ (SqL K H c (xs.map V.str) ∨ SqT K H c (xs.map V.str)), ?_, ?_⟩
    · cases ax with
      | lst e => exact ⟨_, rfl, _, _, _, _, false, rfl, .own C, .base (.lst e), T.kL, _, rfl, iteF ⟨rfl, _, rfl, .inl (.of e)⟩⟩
      | tup e => exact ⟨_, rfl, _, _, _, _, false, rfl, .own C, .base (.tup e), T.kT, _, rfl, iteF ⟨rfl, _, rfl, .inr (.of e)⟩⟩
      | emp e c s => exact ⟨_, rfl, _, _, _, _, false, rfl, .own C, .kTuple e c, T.kT, _, rfl, iteF ⟨rfl, _, rfl, .inr (s H)⟩⟩
      | own e =>
        obtain ⟨dy, t, h1, h2, _⟩ := e
        exact ⟨_, rfl, _, _, _, _, true, rfl, .own C, T.isi h1, T.ins.me, _, rfl, iteT ⟨_, rfl, _, C, dy, _, _, rfl, h1, T.ins.cl, T.nM, flM_get t, rfl, t, rfl, .inr (.of h2)⟩⟩
    · rintro σ' H' ⟨rfl, c, rfl, hc⟩
      refine ⟨_, rfl, c, xs, rfl, hc, few, fun q l nq nd m => ?_⟩
      refine ⟨q, l, rfl, upd_same, fun ys r so m2 len nr => ?_⟩
      refine ⟨r, _, rfl, .inl ⟨.of upd_same, fun t nt => ?_⟩⟩
      have up : Up ys := up_of so (nodup_len nd (fun z hz => (m2 z).mpr hz) len)
      have h1 : Same H' (upd (upd (upd H' q (.ext fun h => TxR P w h q l)) r (.lst (ys.map V.str))) t (.tup (ys.map V.str))) := ((Same.new nq).trans (Same.new nr)).trans (Same.new nt)
      have ht : t ≠ p := ne_none nt ((Same.new nr) _ _ ((Same.new nq) _ _ hp))
      refine ⟨_, rfl, p, C, dx, [], rfl, h1 _ _ hp, T.ins.cl, T.nM, (by show 0 < 1000; decide), ?_⟩
      refine k t ys _ up (fun z => (m2 z).trans (m z)) upd_same (by rw [upd_ne ht, upd_same]) fun b o nb e => ?_
      rw [upd_ne nb]
      exact h1 _ _ e
theorem ArgS.same {H H' : Hp} {x : V} {xs : List Str} (h : ArgS K C H x xs) (s : Same H H') : ArgS K C H' x xs := by
  cases h with
  | lst e => exact .lst (s _ _ e)
  | tup e => exact .tup (s _ _ e)
  | emp e c q => exact .emp e c q
  | own e => exact .own (e.same s)
/-- NameSet(x): a new one -/
theorem make_ns {H : Hp} {x : V} {xs : List Str} {Q : VK} {E : XK} (ax : ArgS K C H x xs) (few : xs.length < 4000) (ok : ∀ z ∈ xs, PyData.strOk z = true)
    (k : ∀ p ms H', NSet C H' p ms → (∀ z, z ∈ ms ↔ z ∈ xs) → H p = none → Same H H' → Q (.ref p) H') :
    ∀ p dx, H p = none → H dx = none → dx ≠ p → spNsInit K C [.ref p, x] (upd (upd H dx (.own p)) p (.ins C dx [])) (fun v H2 => v = .non ∧ Q (.ref p) H2) E := by
  intro p dx hp hd ne
  have s1 : Same H (upd (upd H dx (.own p)) p (.ins C dx [])) := Same.mut (Same.new hd) hp
  refine ⟨p, dx, x, xs, rfl, upd_same, ax.same s1, few, fun t ms H' up m h1 h2 kp => ⟨rfl, k p ms H' ⟨dx, t, h1, h2, up, ?_, fun z hz => ok z ((m z).mp hz)⟩ m hp fun b o e => kp b o (ne_of_none e hp) (s1 _ _ e)⟩⟩
  exact Nat.lt_of_le_of_lt (nodup_le up.nd fun z hz => (m z).mp hz) few
theorem ns_grow {H : Hp} {p dx : Addr} (hp : H p = none) (hd : H dx = none) : Same H (upd (upd H dx (.own p)) p (.ins C dx [])) := Same.mut (Same.new hd) hp
theorem ns_after {H H' : Hp} {p dx t : Addr} {xs ms : List Str} (few : xs.length < 4000) (ok : ∀ z ∈ xs, PyData.strOk z = true) (hp : H p = none) (hd : H dx = none) (up : Up ms) (m : ∀ z, z ∈ ms ↔ z ∈ xs)
    (h1 : H' p = some (.ins C dx (flM t))) (h2 : H' t = some (.tup (ms.map V.str))) (kp : ∀ b o, b ≠ p → (upd (upd H dx (.own p)) p (.ins C dx [])) b = some o → H' b = some o) : NSet C H' p ms ∧ Same H H' :=
  ⟨⟨dx, t, h1, h2, up, Nat.lt_of_le_of_lt (nodup_le up.nd fun z hz => (m z).mp hz) few, fun z hz => ok z ((m z).mp hz)⟩, fun b o e => kp b o (ne_of_none e hp) ((ns_grow hp hd) b o e)⟩
end
end Mf
/-! Any walk; data of steps and procedures compared; lists of a heap that keep their kind. -/
namespace Mf
open PySem L2
theorem it_any {J : It} {n : Nat} {G : Hp → Prop} {Y : Nat → Hp → V → Hp → Prop} (w : Walk J n G Y) {B : (Hp → Prop) → V → Hp → Prop} {Qd : Hp → Prop} {H1 : Hp} (Pv : Nat → Hp → Prop) (h0 : Pv 0 H1) (hG : ∀ i H, i ≤ n → Pv i H → G H)
    (hs : ∀ i x H H', i < n → Pv i H → Y i H x H' → B (Pv (i + 1)) x H') (hd : ∀ H, Pv n H → Qd H) :
    ∃ W : Nat → Nat → Hp → Prop, (∃ m, W 0 m H1) ∧ ∀ i m H, W i m H → (J.stop i H ∧ Qd H) ∨ (J.go i H ∧ ∃ Nx : Hp → Prop, (∀ H', Nx H' → ∃ m', m' < m ∧ W (i + 1) m' H') ∧ ∀ x H', J.yld i H x H' → B Nx x H') := by
  refine ⟨fun i m H => m = n - i ∧ i ≤ n ∧ Pv i H, ⟨n, by simp, Nat.zero_le _, h0⟩, ?_⟩
  rintro i m H ⟨rfl, hi, p⟩
  have q := hG i H hi p
  by_cases hlt : i < n
  · exact .inr ⟨w.goes i H hlt q, Pv (i + 1), fun H' p' => ⟨n - (i + 1), by omega, rfl, hlt, p'⟩, fun x H' y => hs i x H H' hlt p (w.yields i H x H' hlt q y)⟩
  · have e : i = n := by omega
    subst e
    exact .inl ⟨w.stops H q, hd H p⟩
section
variable (K : PySem.W.Frag) {X : Cx}
theorem piL {tg l : Expr} {tl : TE} (hl : PE X l tl) (h : X.K = K := by rfl) : PI X tg l (iList K tl) := h ▸ pi_list hl
theorem piT {tg l : Expr} {tl : TE} (hl : PE X l tl) (h : X.K = K := by rfl) : PI X tg l (iTup K tl) := h ▸ pi_tup hl
end

/-! ### data -/
theorem eqvMap {α : Type} [DecidableEq α] {f : α → PyData} (h : ∀ x y, PyData.eqv (f x) (f y) = decide (x = y)) : ∀ xs ys : List α, PyData.eqvAll (xs.map f) (ys.map f) = decide (xs = ys)
  | [], [] => rfl
  | [], _ :: _ => rfl
  | _ :: _, [] => rfl
  | x :: xs, y :: ys => by
    show (PyData.eqv (f x) (f y) && PyData.eqvAll (xs.map f) (ys.map f)) = _
    rw [h, eqvMap h xs ys]
    by_cases e : x = y <;> simp [e]
/-- data that can be laid, of depth at most k -/
def Sh (k : Nat) (d : PyData) : Prop := d.canLay0 = true ∧ PyData.depth d ≤ k
theorem Sh.up {k m : Nat} {d : PyData} (h : Sh k d) (l : k ≤ m) : Sh m d := ⟨h.1, Nat.le_trans h.2 l⟩
theorem Sh.all {k : Nat} : ∀ {ds : List PyData}, (∀ d ∈ ds, Sh k d) → PyData.canLayAll0 ds = true ∧ PyData.depthAll ds ≤ k
  | [], _ => ⟨rfl, Nat.zero_le _⟩
  | d :: ds, h => by
    obtain ⟨a, b⟩ := Sh.all (ds := ds) fun y hy => h y (List.mem_cons_of_mem _ hy)
    obtain ⟨a', b'⟩ := h d List.mem_cons_self
    refine ⟨?_, ?_⟩
    · show (d.canLay0 && PyData.canLayAll0 ds) = true
      rw [a, a']; rfl
    · show max (PyData.depth d) (PyData.depthAll ds) ≤ k
      omega
theorem Sh.list {k : Nat} {ds : List PyData} (h : ∀ d ∈ ds, Sh k d) : Sh (k + 1) (.list ds) := ⟨(Sh.all h).1, Nat.succ_le_succ (Sh.all h).2⟩
theorem Sh.tuple {k : Nat} {ds : List PyData} (h : ∀ d ∈ ds, Sh k d) : Sh (k + 1) (.tuple ds) := ⟨(Sh.all h).1, Nat.succ_le_succ (Sh.all h).2⟩
theorem Sh.listM {α : Type} {k : Nat} {xs : List α} {f : α → PyData} (h : ∀ x ∈ xs, Sh k (f x)) : Sh (k + 1) (.list (xs.map f)) := .list fun d hd => by obtain ⟨x, hx, rfl⟩ := List.mem_map.mp hd; exact h x hx
theorem Sh.tupleM {α : Type} {k : Nat} {xs : List α} {f : α → PyData} (h : ∀ x ∈ xs, Sh k (f x)) : Sh (k + 1) (.tuple (xs.map f)) := .tuple fun d hd => by obtain ⟨x, hx, rfl⟩ := List.mem_map.mp hd; exact h x hx
theorem Sh.str {z : Str} (h : PyData.strOk z = true) : Sh 0 (.str z) := ⟨h, Nat.le_refl _⟩
theorem Sh.int (i : Int) : Sh 0 (.int i) := ⟨rfl, Nat.le_refl _⟩
theorem Sh.sh {k : Nat} {d : PyData} (h : Sh k d) (l : k ≤ 64 := by decide) : SeqAt.shaped d = true := Bool.and_eq_true_iff.mpr ⟨h.1, decide_eq_true (Nat.le_trans h.2 l)⟩
theorem dpMap {K : PySem.W.Frag} {H : Hp} {α : Type} {g : α → V} {f : α → PyData} : ∀ {xs : List α}, (∀ x ∈ xs, Dp K H (g x) (f x)) → DpAll K H (xs.map g) (xs.map f)
  | [], _ => .nil
  | x :: xs, h => .cons (h x List.mem_cons_self) (dpMap fun y hy => h y (List.mem_cons_of_mem _ hy))
theorem dpPair {K : PySem.W.Frag} {H : Hp} {α β : Type} {R : α → β → Prop} {g : α → V} {f : β → PyData} {as : List α} {bs : List β} (p : Paired R as bs) (h : ∀ a b, R a b → Dp K H (g a) (f b)) : DpAll K H (as.map g) (bs.map f) := by
  induction p with
  | nil => exact .nil
  | cons a _ ih => exact .cons (h _ _ a) ih
/-! ### steps and procedures as data -/
abbrev Step := Str × Str
abbrev Pc := Str × List Step
def stD (s : Step) : PyData := .tuple [.str s.1, .str s.2]
def bdL (ss : List Step) : PyData := .list (ss.map stD)
def bdT (ss : List Step) : PyData := .tuple (ss.map stD)
def pcL (x : Pc) : PyData := .tuple [.str x.1, bdL x.2]
theorem eqv_str (x y : Str) : PyData.eqv (.str x) (.str y) = decide (x = y) := by
  show (x == y) = _
  by_cases e : x = y <;> simp [e]
theorem eqv_st (x y : Step) : PyData.eqv (stD x) (stD y) = decide (x = y) := by
  obtain ⟨a, b⟩ := x
  obtain ⟨c, d⟩ := y
  show (PyData.eqv (.str a) (.str c) && (PyData.eqv (.str b) (.str d) && true)) = _
  rw [eqv_str, eqv_str]
  by_cases e : a = c <;> by_cases f : b = d <;> simp [e, f]
theorem eqv_bdL (x y : List Step) : PyData.eqv (bdL x) (bdL y) = decide (x = y) := eqvMap eqv_st x y
theorem eqv_bdT (x y : List Step) : PyData.eqv (bdT x) (bdT y) = decide (x = y) := eqvMap eqv_st x y
theorem eqv_pcL (x y : Pc) : PyData.eqv (pcL x) (pcL y) = decide (x = y) := by
  obtain ⟨a, b⟩ := x
  obtain ⟨c, d⟩ := y
  show (PyData.eqv (.str a) (.str c) && (PyData.eqv (bdL b) (bdL d) && true)) = _
  rw [eqv_str, eqv_bdL]
  by_cases e : a = c <;> by_cases f : b = d <;> simp [e, f]
def StOk (s : Step) : Prop := PyData.strOk s.1 = true ∧ PyData.strOk s.2 = true
theorem sh_st {s : Step} (h : StOk s) : Sh 1 (stD s) := .tuple fun d hd => by
  simp only [List.mem_cons, List.not_mem_nil, or_false] at hd
  rcases hd with rfl | rfl
  · exact .str h.1
  · exact .str h.2
theorem sh_bdL {ss : List Step} (h : ∀ s ∈ ss, StOk s) : Sh 2 (bdL ss) := .listM fun s hs => sh_st (h s hs)
theorem sh_bdT {ss : List Step} (h : ∀ s ∈ ss, StOk s) : Sh 2 (bdT ss) := .tupleM fun s hs => sh_st (h s hs)
theorem sh_pcL {x : Pc} (h : PyData.strOk x.1 = true) (h2 : ∀ s ∈ x.2, StOk s) : Sh 3 (pcL x) := .tuple fun d hd => by
  simp only [List.mem_cons, List.not_mem_nil, or_false] at hd
  rcases hd with rfl | rfl
  · exact (Sh.str h).up (by decide)
  · exact sh_bdL h2

/-! ### all but lists stays -/
def NoL (o : HO) : Prop := ∀ xs, o ≠ .lst xs
def SameN (H H' : Hp) : Prop := ∀ b o, NoL o → H b = some o → H' b = some o
theorem SameN.refl {H : Hp} : SameN H H := fun _ _ _ h => h
theorem SameN.of {H H' : Hp} (x : Same H H') : SameN H H' := fun b o _ h => x b o h
theorem SameN.trans {H H1 H2 : Hp} (x : SameN H H1) (y : SameN H1 H2) : SameN H H2 := fun b o n h => y b o n (x b o n h)
theorem SameN.put {H H1 : Hp} {p : Addr} {xs : List V} {o : HO} (x : SameN H H1) (h : H1 p = some (.lst xs)) : SameN H (upd H1 p o) := fun b u n e => by
  have q := x b u n e
  rw [upd_ne (fun z => by rw [z, h] at q; exact n xs (Option.some.inj q).symm)]
  exact q
theorem noL_tup {xs : List V} : NoL (.tup xs) := fun _ h => nomatch h
theorem noL_dK {k : List (Key × V)} : NoL (.dK k) := fun _ h => nomatch h
theorem noL_ins {C d : Addr} {f : List (Str × V)} : NoL (.ins C d f) := fun _ h => nomatch h
theorem SameN.tup {K : PySem.W.Frag} {t : Addr} {H H' : Hp} {xs : List V} (x : SameN H H') (h : SqT K H t xs) : SqT K H' t xs := by
  rcases h with (h | ⟨o, h⟩) | h
  · exact .inl (.inl (x _ _ noL_tup h))
  · exact .inl (.inr ⟨o, x _ _ (fun _ h => nomatch h) h⟩)
  · exact .inr h
/-- all but a, and but lists, stays -/
theorem refs_ne {H : Hp} {a x : Addr} {n : Nat} {ts : List Addr} (S : Src H a n) (h : H x = some (.lst (ts.map V.ref))) : x ≠ a := fun e => by
  obtain ⟨g, s, c, q, _⟩ := S
  rw [e, q] at h
  cases ts with
  | nil => simp at h
  | cons t ts => simp at h
theorem strs_ne {H : Hp} {a x : Addr} {n : Nat} {zs : List Str} (S : Src H a n) (h : H x = some (.lst (zs.map V.str))) : x ≠ a := fun e => by
  obtain ⟨g, s, c, q, _⟩ := S
  rw [e, q] at h
  cases zs with
  | nil => simp at h
  | cons t ts => simp at h
theorem noL_ne {H : Hp} {a x : Addr} {n : Nat} {o : HO} (S : Src H a n) (k : NoL o) (h : H x = some o) : x ≠ a := fun e => by
  obtain ⟨g, s, c, q, _⟩ := S
  rw [e, q] at h
  exact k _ (Option.some.inj h).symm
theorem Kp.noL {H H' : Hp} {a : Addr} {n : Nat} (x : Kp a H H') (S : Src H a n) : SameN H H' := fun b o k h => x b o (noL_ne S k h) h
end Mf
/-! The text of a program. -/
namespace Mf
open PySem L2
/-- an f-string's reading, under a name -/
def tJoin (ts : List TE) : TE := fun σ H Q => tJs ts Str.empty σ H fun out H1 => Q (.str out) H1
theorem pe_jn {X : Cx} {v1 v2 : Expr} {rest : List Expr} {ts : List TE} {pos : Pos} (h : PJ X (v1 :: v2 :: rest) ts) : PE X (.JoinedStr (v1 :: v2 :: rest) pos) (tJoin ts) := pe_joined h
def stepT (s : Step) : Str := ((((Str.empty ++ (" " : Str)) ++ s.1) ++ (" " : Str)) ++ s.2)
def lineT (n : Str) (ss : List Step) : Str := (n ++ (":" : Str)) ++ Txt.join ("," : Str) (ss.map stepT)
def textT (x : List Pc) : Str := Txt.join ("\n" : Str) (x.map fun y => lineT y.1 y.2)
theorem tl_sp : TL.tl (" " : Str) = [32] := by decide +kernel
theorem tl_co : TL.tl (":" : Str) = [58] := by decide +kernel
theorem tl_cm : TL.tl ("," : Str) = [44] := by decide +kernel
theorem tl_nl : TL.tl ("\n" : Str) = [10] := by decide +kernel
theorem tl_cs : TL.tl (", " : Str) = [44, 32] := by decide +kernel
theorem tl_c2 : TL.tl (": " : Str) = [58, 32] := by decide +kernel
theorem tl_em : TL.tl Str.empty = [] := rfl
theorem tl_step (s : Step) : TL.tl (stepT s) = 32 :: (TL.tl s.1 ++ 32 :: TL.tl s.2) := by
  unfold stepT
  rw [TL.tl_append, TL.tl_append, TL.tl_append, TL.tl_append, tl_sp, tl_em]
  simp
theorem tl_joinT (y : Str) (ps : List Str) : TL.tl (Txt.join y ps) = TL.joinL (TL.tl y) (ps.map TL.tl) := by rw [TL.join_eq, TL.tl_join]
theorem tl_line (n : Str) (ss : List Step) : TL.tl (lineT n ss) = TL.tl n ++ 58 :: TL.joinL [44] ((ss.map stepT).map TL.tl) := by
  unfold lineT
  rw [TL.tl_append, TL.tl_append, tl_co, tl_joinT, tl_cm]
  simp
/-- the blank in front of each piece goes into what stands between them -/
theorem join_blank (ps : List (List Nat)) (ne : ps ≠ []) : TL.joinL [44] (ps.map fun p => 32 :: p) = 32 :: TL.joinL [44, 32] ps := by
  induction ps with
  | nil => exact absurd rfl ne
  | cons p r ih =>
    cases r with
    | nil => rfl
    | cons q r =>
      show (32 :: p) ++ ([44] ++ TL.joinL [44] ((q :: r).map fun p => 32 :: p)) = 32 :: (p ++ ([44, 32] ++ TL.joinL [44, 32] (q :: r)))
      rw [ih (by simp)]
      simp
/-- the law's own writing of a line -/
def lawLine (n : Str) (ss : List Step) : Str := if ss.length = 0 then n ++ (":" : Str) else (n ++ (": " : Str)) ++ Txt.join (", " : Str) (ss.map fun s => (s.1 ++ (" " : Str)) ++ s.2)
theorem lawLine_eq (n : Str) (ss : List Step) : lawLine n ss = lineT n ss := by
  refine TL.ext_tl ?_
  rw [tl_line]
  unfold lawLine
  by_cases e : ss.length = 0
  · rw [if_pos e]
    obtain rfl := List.eq_nil_of_length_eq_zero e
    rw [TL.tl_append, tl_co]; rfl
  · rw [if_neg e, TL.tl_append, TL.tl_append, tl_c2, tl_joinT, tl_cs]
    have e1 : (ss.map stepT).map TL.tl = ((ss.map fun s => (s.1 ++ (" " : Str)) ++ s.2).map TL.tl).map fun p => 32 :: p := by
      rw [List.map_map, List.map_map, List.map_map]
      refine List.map_congr_left fun s _ => ?_
      show TL.tl (stepT s) = 32 :: TL.tl ((s.1 ++ (" " : Str)) ++ s.2)
      rw [tl_step, TL.tl_append, TL.tl_append, tl_sp]
      simp
    rw [e1, join_blank _ (fun h => e (by rw [← List.length_map (f := fun s : Step => (s.1 ++ (" " : Str)) ++ s.2), ← List.length_map (f := TL.tl), h]; rfl))]
    simp
/-- no sign of a name or of a kind stands between the parts -/
def Plain (z : Str) : Prop := ∀ c ∈ TL.tl z, 97 ≤ c ∧ c ≤ 122
theorem IsName.plain {z : Str} (h : IsName z) : Plain z := h.2.2
theorem Plain.not {z : Str} (h : Plain z) {c : Nat} (l : c < 97) : ¬ c ∈ TL.tl z := fun m => by have := (h c m).1; omega
theorem step_no {s : Step} (h1 : Plain s.1) (h2 : Plain s.2) {c : Nat} (l : c < 97) (n : c ≠ 32) : ¬ c ∈ TL.tl (stepT s) := fun m => by
  rw [tl_step] at m
  simp only [List.mem_cons, List.mem_append] at m
  rcases m with m | m | m | m
  · exact n m
  · exact h1.not l m
  · exact n m
  · exact h2.not l m
theorem joinL_no {S : List Nat} {c : Nat} (hS : ¬ c ∈ S) : ∀ {ps : List (List Nat)}, (∀ p ∈ ps, ¬ c ∈ p) → ¬ c ∈ TL.joinL S ps
  | [], _ => by show ¬ c ∈ []; simp
  | [p], h => h p List.mem_cons_self
  | p :: q :: r, h => by
    show ¬ c ∈ p ++ (S ++ TL.joinL S (q :: r))
    rw [List.mem_append, List.mem_append]
    rintro (m | m | m)
    · exact h p List.mem_cons_self m
    · exact hS m
    · exact joinL_no hS (fun x hx => h x (List.mem_cons_of_mem _ hx)) m
theorem line_no {n : Str} {ss : List Step} (hn : Plain n) (h : ∀ s ∈ ss, Plain s.1 ∧ Plain s.2) : ¬ 10 ∈ TL.tl (lineT n ss) := fun m => by
  rw [tl_line, List.mem_append, List.mem_cons] at m
  rcases m with m | m | m
  · exact hn.not (by decide) m
  · exact absurd m (by decide)
  · refine joinL_no (S := [44]) (by decide) (fun p hp => ?_) m
    obtain ⟨z, hz, rfl⟩ := List.mem_map.mp hp
    obtain ⟨s, hs, rfl⟩ := List.mem_map.mp hz
    exact step_no (h s hs).1 (h s hs).2 (by decide) (by decide)
theorem split_text {x : List Pc} (ne : x ≠ []) (h : ∀ y ∈ x, Plain y.1 ∧ ∀ s ∈ y.2, Plain s.1 ∧ Plain s.2) : Txt.split (textT x) ("\n" : Str) = x.map fun y => lineT y.1 y.2 := by
  unfold textT
  refine TL.split_join tl_nl (by decide +kernel) (fun e => ne (List.map_eq_nil_iff.mp e)) fun p hp => ?_
  obtain ⟨y, hy, rfl⟩ := List.mem_map.mp hp
  exact line_no (h y hy).1 (h y hy).2
theorem part_line {n : Str} {ss : List Step} (hn : Plain n) : Txt.partition (lineT n ss) (":" : Str) = (n, (":" : Str), Txt.join ("," : Str) (ss.map stepT)) :=
  TL.partition_app tl_co (hn.not (by decide))
theorem split_steps {ss : List Step} (ne : ss ≠ []) (h : ∀ s ∈ ss, Plain s.1 ∧ Plain s.2) : Txt.split (Txt.join ("," : Str) (ss.map stepT)) ("," : Str) = ss.map stepT := by
  refine TL.split_join tl_cm (by decide +kernel) (fun e => ne (List.map_eq_nil_iff.mp e)) fun p hp => ?_
  obtain ⟨s, hs, rfl⟩ := List.mem_map.mp hp
  exact step_no (h s hs).1 (h s hs).2 (by decide) (by decide)
theorem steps_empty {ss : List Step} : Txt.join ("," : Str) (ss.map stepT) = Str.empty ↔ ss = [] := by
  constructor
  · intro e
    cases ss with
    | nil => rfl
    | cons s r =>
      have q := congrArg TL.tl e
      rw [tl_joinT, List.map_cons, List.map_cons, tl_step] at q
      cases r with
      | nil => cases q
      | cons t r => cases q
  · rintro rfl
    refine TL.ext_tl ?_
    rw [tl_joinT]; rfl
theorem cut_one {z : Str} {c : Nat} {r : List Nat} (h : TL.tl z = c :: r) : TL.tl (cutS z (some 1) none) = r := by
  have hl : z.length = r.length + 1 := by rw [len_tl, show z.cps.toList = TL.tl z from rfl, h]; rfl
  have h1 : HT.sIx z.length 0 (some 1) = 1 := by unfold HT.sIx; simp; omega
  have h2 : HT.sIx z.length z.length none = z.length := rfl
  unfold cutS
  rw [h1, h2]
  show ((TL.tl z).drop 1).take (z.length - 1) = r
  rw [h, hl]
  simp
theorem cut_step (s : Step) : cutS (stepT s) (some 1) none = (s.1 ++ (" " : Str)) ++ s.2 := by
  refine TL.ext_tl ?_
  rw [TL.tl_append, TL.tl_append, tl_sp, cut_one (tl_step s)]
  simp
/-! ### lengths -/
theorem joinL_len {S : List Nat} {k : Nat} : ∀ {ps : List (List Nat)}, (∀ p ∈ ps, p.length ≤ k) → (TL.joinL S ps).length ≤ ps.length * (k + S.length)
  | [], _ => Nat.zero_le _
  | [p], h => by
    show p.length ≤ 1 * (k + S.length)
    have := h p List.mem_cons_self
    omega
  | p :: q :: r, h => by
    show (p ++ (S ++ TL.joinL S (q :: r))).length ≤ _
    have a := joinL_len (S := S) (ps := q :: r) fun x hx => h x (List.mem_cons_of_mem _ hx)
    have b := h p List.mem_cons_self
    rw [List.length_append, List.length_append, List.length_cons, Nat.add_mul]
    omega
def Short (s : Step) : Prop := s.1.length ≤ 8 ∧ s.2.length ≤ 8
theorem len_of (z : Str) : z.length = (TL.tl z).length := len_tl z
theorem app_len (x y : Str) : (x ++ y).length = x.length + y.length := by rw [len_of, len_of x, len_of y, TL.tl_append, List.length_append]
theorem sp_len : (" " : Str).length = 1 := by decide +kernel
theorem co_len : (":" : Str).length = 1 := by decide +kernel
theorem em_len : Str.empty.length = 0 := rfl
theorem step_len {s : Step} (h : Short s) : (stepT s).length ≤ 18 := by
  have a := h.1; have b := h.2
  rw [len_of] at a b ⊢
  rw [tl_step, List.length_cons, List.length_append, List.length_cons]
  omega
theorem line_len {n : Str} {ss : List Step} (hn : n.length ≤ 8) (l : ss.length ≤ 12) (h : ∀ s ∈ ss, Short s) : (lineT n ss).length ≤ 240 := by
  rw [len_of] at hn ⊢
  rw [tl_line, List.length_append, List.length_cons]
  have a := joinL_len (S := [44]) (k := 18) (ps := (ss.map stepT).map TL.tl) fun p hp => by
    obtain ⟨z, hz, rfl⟩ := List.mem_map.mp hp
    obtain ⟨s, hs, rfl⟩ := List.mem_map.mp hz
    have := step_len (h s hs)
    rw [len_of] at this
    exact this
  rw [List.length_map, List.length_map, List.length_singleton] at a
  omega
theorem text_len {x : List Pc} (l : x.length ≤ 16) (h : ∀ y ∈ x, y.1.length ≤ 8 ∧ y.2.length ≤ 12 ∧ ∀ s ∈ y.2, Short s) : (textT x).length ≤ 4000 := by
  rw [len_of]
  unfold textT
  rw [tl_joinT, tl_nl]
  have a := joinL_len (S := [10]) (k := 240) (ps := (x.map fun y => lineT y.1 y.2).map TL.tl) fun p hp => by
    obtain ⟨z, hz, rfl⟩ := List.mem_map.mp hp
    obtain ⟨y, hy, rfl⟩ := List.mem_map.mp hz
    have := line_len (h y hy).1 (h y hy).2.1 (h y hy).2.2
    rw [len_of] at this
    exact this
  rw [List.length_map, List.length_map, List.length_singleton] at a
  omega
theorem sum_le {k : Nat} : ∀ {ys : List Str}, (∀ y ∈ ys, y.length ≤ k) → (ys.map (·.length)).sum ≤ ys.length * k
  | [], _ => Nat.zero_le _
  | y :: r, h => by
    rw [List.map_cons, List.sum_cons, List.length_cons, Nat.add_mul]
    have a := sum_le fun x hx => h x (List.mem_cons_of_mem _ hx)
    have b := h y List.mem_cons_self
    omega
theorem part_step {s : Step} (h : Plain s.1) : Txt.partition ((s.1 ++ (" " : Str)) ++ s.2) (" " : Str) = (s.1, (" " : Str), s.2) := TL.partition_app tl_sp (h.not (by decide))
end Mf
/-! A line of any text, read in two ways. -/
namespace Mf
open PySem L2
/-! ### lengths of what is cut -/
theorem spl_len (S : List Nat) : ∀ (l : List Nat) (k : Nat) (acc : List Nat), ((TL.spl S k acc l).map List.length).sum ≤ acc.length + l.length ∧ (TL.spl S k acc l).length ≤ l.length + 1 ∧ TL.spl S k acc l ≠ []
  | [], k, acc => by
    rw [TL.spl_nil]
    exact ⟨by simp, by simp, by simp⟩
  | c :: r, 0, acc => by
    show ((if TL.pre S (c :: r) = true then acc :: TL.spl S (S.length - 1) [] r else TL.spl S 0 (acc ++ [c]) r).map List.length).sum ≤ _ ∧ (if TL.pre S (c :: r) = true then acc :: TL.spl S (S.length - 1) [] r else TL.spl S 0 (acc ++ [c]) r).length ≤ _ ∧ (if TL.pre S (c :: r) = true then acc :: TL.spl S (S.length - 1) [] r else TL.spl S 0 (acc ++ [c]) r) ≠ []
    by_cases h : TL.pre S (c :: r) = true
    · rw [if_pos h]
      obtain ⟨a, b, _⟩ := spl_len S r (S.length - 1) []
      rw [List.map_cons, List.sum_cons, List.length_cons, List.length_cons]
      rw [List.length_nil] at a
      exact ⟨by omega, by omega, by simp⟩
    · rw [if_neg h]
      obtain ⟨a, b, c'⟩ := spl_len S r 0 (acc ++ [c])
      rw [List.length_append, List.length_singleton] at a
      rw [List.length_cons]
      exact ⟨by omega, by omega, c'⟩
  | c :: r, k + 1, acc => by
    obtain ⟨a, b, c'⟩ := spl_len S r k acc
    rw [List.length_cons]
    exact ⟨Nat.le_trans a (by omega), Nat.le_trans b (by omega), c'⟩
theorem split_sum (z y : Str) (hy : TL.tl y ≠ []) (hk : y.cps.all (· < 256) = true) : ((Txt.split z y).map (·.length)).sum ≤ z.length ∧ (Txt.split z y).length ≤ z.length + 1 ∧ Txt.split z y ≠ [] := by
  have e := TL.split_spl z y hy (TL.kind_ok hk)
  obtain ⟨a, b, c⟩ := spl_len (TL.tl y) (TL.tl z) 0 []
  rw [← e] at a b c
  rw [List.map_map, List.length_nil, Nat.zero_add, ← len_of] at a
  rw [List.length_map, ← len_of] at b
  have f : (Txt.split z y).map (·.length) = (Txt.split z y).map (List.length ∘ TL.tl) := List.map_congr_left fun w _ => len_of w
  rw [f]
  exact ⟨a, b, fun h => c (by rw [h]; rfl)⟩
theorem par_len (S : List Nat) : ∀ (l acc a b : List Nat), TL.par S acc l = some (a, b) → a.length + b.length ≤ acc.length + l.length
  | [], acc, a, b, h => by cases h
  | c :: r, acc, a, b, h => by
    have h : (if TL.pre S (c :: r) = true then some (acc, (c :: r).drop S.length) else TL.par S (acc ++ [c]) r) = some (a, b) := h
    by_cases q : TL.pre S (c :: r) = true
    · rw [if_pos q] at h
      obtain ⟨rfl, rfl⟩ := Prod.mk.inj (Option.some.inj h)
      rw [List.length_drop]
      omega
    · rw [if_neg q] at h
      have := par_len S r (acc ++ [c]) a b h
      rw [List.length_append, List.length_singleton] at this
      rw [List.length_cons]
      omega
theorem part_len (z y : Str) (hy : TL.tl y ≠ []) : (Txt.partition z y).1.length + (Txt.partition z y).2.2.length ≤ z.length := by
  rw [TL.partition_par z y hy]
  cases h : TL.par (TL.tl y) [] (TL.tl z) with
  | none => exact Nat.le_refl _
  | some ab =>
    obtain ⟨a, b⟩ := ab
    have := par_len _ _ _ _ _ h
    rw [List.length_nil, Nat.zero_add, ← len_of] at this
    exact this
theorem cut_tl (z : Str) (k : Nat) (h : k ≤ z.length) : TL.tl (cutS z (some (k : Int)) none) = (TL.tl z).drop k := by
  have h1 : HT.sIx z.length 0 (some (k : Int)) = k := by rw [HT.sIx_nat]; exact Nat.min_eq_left h
  have h2 : HT.sIx z.length z.length none = z.length := rfl
  unfold cutS
  rw [h1, h2]
  show ((TL.tl z).drop k).take (z.length - k) = _
  rw [List.take_of_length_le]
  rw [List.length_drop, ← len_of]
  omega
def noPc : Pc := (("" : Str), ([] : List Step))
/-! ### a line read by the program -/
def pStep (z : Str) : Step := ((Txt.partition (cutS z (some 1) none) (" " : Str)).1, (Txt.partition (cutS z (some 1) none) (" " : Str)).2.2)
def sLen (ss : List Step) : Nat := (ss.map fun s => s.1.length + s.2.length).sum
theorem pStep_len (z : Str) : (pStep z).1.length + (pStep z).2.length ≤ z.length := Nat.le_trans (part_len _ _ (by rw [tl_sp]; simp)) (cutS_length z (some 1) none)
theorem sLen_map {f : Str → Step} (h : ∀ z, (f z).1.length + (f z).2.length ≤ z.length) : ∀ zs : List Str, sLen (zs.map f) ≤ (zs.map (·.length)).sum
  | [] => Nat.le_refl _
  | z :: zs => by
    show ((f z).1.length + (f z).2.length) + sLen (zs.map f) ≤ z.length + (zs.map (·.length)).sum
    have := sLen_map h zs
    have := h z
    omega
def pBody (z : Str) : List Step := if z = Str.empty then [] else (Txt.split z ("," : Str)).map pStep
theorem pBody_len (z : Str) : sLen (pBody z) ≤ z.length ∧ (pBody z).length ≤ z.length + 1 := by
  unfold pBody
  by_cases e : z = Str.empty
  · rw [if_pos e]; exact ⟨Nat.zero_le _, Nat.zero_le _⟩
  · rw [if_neg e, List.length_map]
    obtain ⟨a, b, _⟩ := split_sum z ("," : Str) (by rw [tl_cm]; simp) (by decide +kernel)
    exact ⟨Nat.le_trans (sLen_map pStep_len _) a, b⟩
theorem join_len (y : Str) : ∀ ps : List Str, (Txt.join y ps).length ≤ (ps.map (·.length)).sum + ps.length * y.length
  | [] => by rw [len_of, tl_joinT]; exact Nat.zero_le _
  | [p] => by
    rw [len_of, tl_joinT]
    show (TL.tl p).length ≤ _
    rw [← len_of]
    show _ ≤ (p.length + 0) + _
    omega
  | p :: q :: r => by
    have ih := join_len y (q :: r)
    rw [len_of, tl_joinT] at ih ⊢
    show (TL.tl p ++ (TL.tl y ++ TL.joinL (TL.tl y) ((q :: r).map TL.tl))).length ≤ _
    show (TL.tl p ++ (TL.tl y ++ TL.joinL (TL.tl y) ((q :: r).map TL.tl))).length ≤ (p.length + ((q :: r).map (·.length)).sum) + ((q :: r).length + 1) * y.length
    rw [List.length_append, List.length_append, Nat.add_mul, ← len_of, ← len_of]
    omega
theorem stepT_len (s : Step) : (stepT s).length = s.1.length + s.2.length + 2 := by
  rw [len_of, tl_step, List.length_cons, List.length_append, List.length_cons, ← len_of, ← len_of]
  omega
theorem stepsT_sum : ∀ ss : List Step, ((ss.map stepT).map (·.length)).sum = sLen ss + 2 * ss.length
  | [] => rfl
  | s :: r => by
    have := stepsT_sum r
    show (stepT s).length + ((r.map stepT).map (·.length)).sum = (s.1.length + s.2.length + sLen r) + 2 * (r.length + 1)
    rw [this, stepT_len]
    omega
theorem lineT_len (n : Str) (ss : List Step) : (lineT n ss).length ≤ n.length + 1 + sLen ss + 3 * ss.length := by
  unfold lineT
  rw [app_len, app_len, co_len]
  have := join_len ("," : Str) (ss.map stepT)
  rw [stepsT_sum, List.length_map, show ("," : Str).length = 1 by decide +kernel] at this
  omega
def pLine (z : Str) : Pc := if lineT (Txt.partition z (":" : Str)).1 (pBody (Txt.partition z (":" : Str)).2.2) = z then ((Txt.partition z (":" : Str)).1, pBody (Txt.partition z (":" : Str)).2.2) else noPc
/-! ### a line read by the law -/
def lStep (z : Str) : Step := ((Txt.split z (" " : Str)).headD "", (Txt.split z (" " : Str)).getLastD "")
def lName (z : Str) : Str := (Txt.split z (":" : Str)).headD ""
def lBody (z n : Str) : List Step := if z = n ++ (":" : Str) then [] else (Txt.split (cutS z (some ((n.length : Int) + 2)) none) (", " : Str)).map lStep
def lLine (z : Str) : Pc := if lineT (lName z) (lBody z (lName z)) = z then (lName z, lBody z (lName z)) else noPc
/-! ### what is right reads back in both -/
structure Readable (x : Pc) : Prop where
  pn : Plain x.1
  ps : ∀ s ∈ x.2, Plain s.1 ∧ Plain s.2
theorem pStep_stepT {s : Step} (h : Plain s.1) : pStep (stepT s) = s := by
  unfold pStep
  rw [cut_step, part_step h]
theorem pLine_line {x : Pc} (h : Readable x) : pLine (lineT x.1 x.2) = x := by
  have e : pBody (Txt.join ("," : Str) (x.2.map stepT)) = x.2 := by
    unfold pBody
    by_cases q : x.2 = []
    · rw [if_pos (steps_empty.mpr q), q]
    · rw [if_neg (fun z => q (steps_empty.mp z)), split_steps q h.ps, List.map_map]
      conv => rhs; rw [← List.map_id x.2]
      exact List.map_congr_left fun s hs => pStep_stepT (h.ps s hs).1
  unfold pLine
  rw [part_line h.pn]
  show (if lineT x.1 (pBody (Txt.join ("," : Str) (x.2.map stepT))) = lineT x.1 x.2 then (x.1, pBody (Txt.join ("," : Str) (x.2.map stepT))) else noPc) = x
  rw [e, if_pos rfl]
theorem split_two {y a b : Str} {s : Nat} {S : List Nat} (ey : TL.tl y = s :: S) (hk : y.cps.all (· < 256) = true) (ha : ¬ s ∈ TL.tl a) (hb : ¬ s ∈ TL.tl b) : Txt.split ((a ++ y) ++ b) y = [a, b] := by
  have e : (a ++ y) ++ b = Txt.join y [a, b] := by
    refine TL.ext_tl ?_
    rw [TL.tl_append, TL.tl_append, tl_joinT]
    show _ = TL.tl a ++ (TL.tl y ++ TL.tl b)
    rw [List.append_assoc]
  rw [e]
  refine TL.split_join ey hk (by simp) fun p hp => ?_
  rcases List.mem_cons.mp hp with rfl | hp
  · exact ha
  · rw [List.mem_singleton.mp hp]; exact hb
theorem lStep_of {s : Step} (h1 : Plain s.1) (h2 : Plain s.2) : lStep ((s.1 ++ (" " : Str)) ++ s.2) = s := by
  unfold lStep
  rw [split_two tl_sp (by decide +kernel) (h1.not (by decide)) (h2.not (by decide))]
  rfl
theorem lLine_line {x : Pc} (h : Readable x) : lLine (lineT x.1 x.2) = x := by
  have nb : ¬ 58 ∈ TL.tl (Txt.join ("," : Str) (x.2.map stepT)) := by
    rw [tl_joinT, tl_cm]
    refine joinL_no (by decide) fun p hp => ?_
    obtain ⟨z, hz, rfl⟩ := List.mem_map.mp hp
    obtain ⟨s, hs, rfl⟩ := List.mem_map.mp hz
    exact step_no (h.ps s hs).1 (h.ps s hs).2 (by decide) (by decide)
  have en : lName (lineT x.1 x.2) = x.1 := by
    unfold lName lineT
    rw [split_two tl_co (by decide +kernel) (h.pn.not (by decide)) nb]
    rfl
  have eb : lBody (lineT x.1 x.2) x.1 = x.2 := by
    unfold lBody
    by_cases q : x.2 = []
    · have e : lineT x.1 x.2 = x.1 ++ (":" : Str) := by
        rw [q]
        refine TL.ext_tl ?_
        rw [tl_line, TL.tl_append, tl_co]; rfl
      rw [if_pos e, q]
    · have ne : ¬ lineT x.1 x.2 = x.1 ++ (":" : Str) := fun e => by
        have e := congrArg TL.tl e
        rw [tl_line, TL.tl_append, tl_co] at e
        have e2 : TL.joinL [44] ((x.2.map stepT).map TL.tl) = [] := by
          have := List.append_cancel_left e
          exact (List.cons.inj this).2
        rw [← tl_cm, ← tl_joinT] at e2
        exact q (steps_empty.mp (TL.ext_tl (e2.trans tl_em.symm)))
      rw [if_neg ne]
      have l0 : ¬ x.2.length = 0 := fun z => q (List.eq_nil_of_length_eq_zero z)
      have el := lawLine_eq x.1 x.2
      unfold lawLine at el
      rw [if_neg l0] at el
      have c2 : (": " : Str).length = 2 := by decide +kernel
      have cut : cutS (lineT x.1 x.2) (some ((x.1.length : Int) + 2)) none = Txt.join (", " : Str) (x.2.map fun s => (s.1 ++ (" " : Str)) ++ s.2) := by
        refine TL.ext_tl ?_
        have hl : x.1.length + 2 ≤ (lineT x.1 x.2).length := by rw [← el, app_len, app_len, c2]; omega
        have := cut_tl (lineT x.1 x.2) (x.1.length + 2) hl
        rw [show (((x.1.length + 2 : Nat)) : Int) = (x.1.length : Int) + 2 by omega] at this
        rw [this, ← el, TL.tl_append]
        have l2 : (TL.tl (x.1 ++ (": " : Str))).length = x.1.length + 2 := by rw [← len_of, app_len, c2]
        rw [← l2, List.drop_left]
      rw [cut, TL.split_join tl_cs (by decide +kernel) (fun z => q (List.map_eq_nil_iff.mp z)) (fun p hp => ?_), List.map_map]
      · conv => rhs; rw [← List.map_id x.2]
        exact List.map_congr_left fun s hs => lStep_of (h.ps s hs).1 (h.ps s hs).2
      · obtain ⟨s, hs, rfl⟩ := List.mem_map.mp hp
        rw [TL.tl_append, TL.tl_append, tl_sp, List.mem_append, List.mem_append]
        rintro ((m | m) | m)
        · exact (h.ps s hs).1.not (by decide) m
        · exact absurd m (by decide)
        · exact (h.ps s hs).2.not (by decide) m
  unfold lLine
  rw [en, eb, if_pos rfl]
/-- where one reading is right, the other is the same -/
theorem agree {z : Str} (h : Readable (pLine z) ∧ pLine z ≠ noPc) : lLine z = pLine z := by
  have e : lineT (pLine z).1 (pLine z).2 = z := by
    have ne := h.2
    unfold pLine at ne ⊢
    split
    · assumption
    · rename_i q; rw [if_neg q] at ne; exact absurd rfl ne
  have q := lLine_line h.1
  rw [e] at q
  exact q
theorem agree' {z : Str} (h : Readable (lLine z) ∧ lLine z ≠ noPc) : pLine z = lLine z := by
  have e : lineT (lLine z).1 (lLine z).2 = z := by
    have ne := h.2
    unfold lLine at ne ⊢
    split
    · assumption
    · rename_i q; rw [if_neg q] at ne; exact absurd rfl ne
  have q := pLine_line h.1
  rw [e] at q
  exact q
end Mf


namespace Mf
open PySem L2

/-- the rule for making an error, also with keywords: the check of its maker -/
theorem eck {M : Model} {A : Around} {E : Value → Shared → Prop} {h : Heap} {g : Array GenState}
    {d : Drawn} {t : Nat} {os : OsState} {nm q : Str} {C N : Addr} {bs bm bmB : List Value} {hdct : Bool} {sn : List Str}
    {sub : List Value} {ab : Bool} {col : Option Bool} {dd : Option Addr} {k0 k1 k2 k3 k5 : Option Value}
    {B newId initId : String} (F : ExcBaseFacts B newId initId bmB)
    (hb : ∀ X : String, bm.contains (Value.type X) = bmB.contains (Value.type X))
    {rest : List Value} {kw : List (Str × Value)} {Q : Unit → Shared → Prop}
    (hC : h.get? C = some (excClassObj nm q C N bs bm hdct sn sub ab col dd k0 k1 k2 k3 k5 newId))
    (hQ : Q () ⟨h, g, d, t, os⟩) :
    wpAny M A (checkBuiltinCall newId ⟨.ref C :: rest, kw⟩) Q E ⟨h, g, d, t, os⟩ := by
  have hB : List.contains (Value.ref C :: bm) (Value.type B) = true := by
    rw [List.contains_cons, hb, F.hasB, Bool.or_true]
  unfold checkBuiltinCall
  simp only [F.newKind, F.newSplit, F.newRow]
  rw [if_pos (by decide)]
  refine wpAny_bind (wpAny_bind (wpAny_loadPart_at hC ?_))
  refine wpAny_pure ?_
  refine wpAny_ite_false (by rfl) ?_
  refine wpAny_bind (wpAny_isSubtype_exc hC ?_)
  rw [hB]
  refine wpAny_ite_false (by rfl) ?_
  refine wpAny_bind (wpAny_staticBase_exc hC ?_)
  refine wpAny_bind (wpAny_madeBy_exc hC ?_)
  simp only [bne_self_eq_false, Bool.false_eq_true, if_false]
  have nst : (B == "*") = false := by have := F.noStar; simpa using this
  unfold Bind.checkArgs
  simp only [Bind.printed, F.noStar, nst, Bool.false_and, if_false, if_true, Bool.false_eq_true, pure_bind, Bind.check]
  exact wpAny_onRaise (wpAny_pure hQ)

theorem enew {prog : Program} {w : World} {A : Around} {R : Result → Shared → Prop} {h : Heap} {g : Array GenState}
    {d : Drawn} {t : Nat} {os : OsState} {nm q : Str} {C N : Addr} {bs bm bmB : List Value} {hdct : Bool} {sn : List Str}
    {sub : List Value} {ab : Bool} {col : Option Bool} {dd : Option Addr} {k0 k1 k2 k3 k5 : Option Value}
    {B newId initId : String} (F : ExcBaseFacts B newId initId bmB)
    (hb : ∀ X : String, bm.contains (Value.type X) = bmB.contains (Value.type X))
    {rest : List Value} {kw : List (Str × Value)}
    (hC : h.get? C = some (excClassObj nm q C N bs bm hdct sn sub ab col dd k0 k1 k2 k3 k5 newId))
    (hR : R (.ok (.ret (.ref (h.objs.size + 1))))
      ⟨(h.push (W.kdv_tup rest)).push (HandSPX.excO C h.objs.size), g, d, t, os⟩)
    (hl : rest.length ≤ sizeLine) :
    codeAny (model prog w) A (.builtin newId ⟨.ref C :: rest, kw⟩) R ⟨h, g, d, t, os⟩ := by
  have hB : List.contains (Value.ref C :: bm) (Value.type B) = true := by
    rw [List.contains_cons, hb, F.hasB, Bool.or_true]
  have hA : List.contains (Value.ref C :: bm) (Value.type "AttributeError") = false := by
    rw [List.contains_cons, hb, F.noAttr]; rfl
  have hN : List.contains (Value.ref C :: bm) (Value.type "NameError") = false := by
    rw [List.contains_cons, hb, F.noName]; rfl
  refine codeAny_builtinAt F.entry ?_
  unfold Builtin.«BaseException.__new__»
  refine wpAt_bind ?_
  refine wpAt_bind (wpAt_stack fun p below => ?_)
  refine wpAt_of_wpAny ?_
  refine wpAny_ite_true (by rw [F.ends]; rfl) ?_
  refine wpAny_pure ?_
  rw [F.owner]
  refine wpAt_of_wpAny ?_
  refine wpAny_bind (wpAny_bind (wpAny_loadPart_at hC (wpAny_pure ?_)))
  refine wpAny_ite_false (by rfl) ?_
  refine wpAny_bind (wpAny_isSubtype_exc hC ?_)
  rw [hB]
  refine wpAny_ite_false (by rfl) ?_
  refine wpAny_bind (wpAny_madeHere_exc F.canon hC ?_)
  refine wpAny_bind (wpAny_bind (wpAny_isSubtype_exc hC ?_))
  rw [hA]
  refine wpAny_ite_false (by rfl) ?_
  refine wpAny_bind (wpAny_isSubtype_exc hC ?_)
  rw [hN]
  refine wpAny_ite_false (by rfl) ?_
  refine wpAny_pure ?_
  unfold newTuple newObj
  refine wpAny_bind (wpAny_ite_false (by
    rw [List.size_toArray]; exact decide_eq_false (Nat.not_lt.mpr hl)) ?_)
  unfold newObjAsIs
  refine wpAny_bind (wpAny_alloc' ?_)
  refine wpAny_pure ?_
  refine wpAny_bind (wpAny_ite_false (by
    show decide (6 > sizeLine + 2) = false
    rw [sizeLine_eq]; rfl) ?_)
  refine wpAny_bind (wpAny_alloc' ?_)
  refine wpAny_bind (wpAny_bind (wpAny_load' (Heap.get?_push_of_some _ (Heap.get?_push_of_some _ hC)) (wpAny_pure ?_)))
  refine wpAny_ite_false (by rfl) ?_
  refine wpAny_pure ?_
  refine wpAny_pure ?_
  rw [Heap.size_push]
  exact hR

theorem etype {prog : Program} {w : World} {A A' : Around} {R : Result → Shared → Prop} {h : Heap} {g : Array GenState}
    {d : Drawn} {t : Nat} {os : OsState} {nm q : Str} {C N : Addr} {bs bm bmB : List Value} {hdct : Bool} {sn : List Str}
    {sub : List Value} {ab : Bool} {col : Option Bool} {dd : Option Addr} {k0 k1 k2 k3 k5 : Option Value}
    {B newId initId : String} (F : ExcBaseFacts B newId initId bmB)
    (hb : ∀ X : String, bm.contains (Value.type X) = bmB.contains (Value.type X))
    {rest : List Value} {kw : List (Str × Value)} {fI : Addr}
    (hC : h.get? C = some (excClassObj nm q C N bs bm hdct sn sub ab col dd k0 k1 k2 k3 k5 newId))
    (hi : W.Looks (model prog w) h (typeLookup (.ref C) (Str.ofString "__init__")) (some (.ref fI)))
    (hs : ∀ self : Value, W.Looks (model prog w) h (bindSpecial (.ref fI) self) (.ref fI, [self]))
    (hl : rest.length ≤ sizeLine)
    (hR : codeAny (model prog w) A
      (.call (.ref fI) ⟨.ref (h.objs.size + 1) :: rest, kw⟩) (W.InitBack (h.objs.size + 1) R)
      ⟨(h.push (W.kdv_tup rest)).push (HandSPX.excO C h.objs.size), g, d, t, os⟩) :
    wpAny (model prog w) A (Builtin.«type.__call__» ⟨.ref C :: rest, kw⟩)
      (fun fin s' => match fin with
        | Fin.done f => R (.ok f) s'
        | Fin.again c' => c'.quiet = true ∧ codeAny (model prog w) A' c' R s')
      (fun e s' => R (.error e) s') ⟨h, g, d, t, os⟩ := by
  unfold Builtin.«type.__call__»
  refine wpAny_ite_false (by rfl) ?_
  dsimp only
  refine wpAny_bind ?_
  unfold mroOf classData
  refine wpAny_bind (wpAny_bind (wpAny_load' hC (wpAny_pure (wpAny_pure ?_))))
  refine wpAny_ite_false (by rfl) ?_
  refine wpAny_bind (wpAny_madeBy_exc hC ?_)
  dsimp only
  refine wpAny_bind (wpAny_pure ?_)
  refine wpAny_bind (wpAny_holding (wpAny_call ?_))
  refine codeAny_call_builtin_code (Code.quiet_builtin _ F.quiet) (eck F hb hC ?_)
  refine enew F hb hC ?_ hl
  have keep : ∀ (b : Addr) (o : Obj), h.get? b = some o →
      ((h.push (W.kdv_tup rest)).push (HandSPX.excO C h.objs.size)).get? b = some o :=
    fun b o hbo => Heap.get?_push_of_some _ (Heap.get?_push_of_some _ hbo)
  have atE : ((h.push (W.kdv_tup rest)).push (HandSPX.excO C h.objs.size)).get? (h.objs.size + 1)
      = some (HandSPX.excO C h.objs.size) :=
    Heap.get?_push_at (by rw [Heap.size_push]) rfl
  have hC2 := keep _ _ hC
  dsimp only
  unfold isInstance
  refine wpAny_bind (wpAny_bind ?_)
  unfold typeOf
  refine wpAny_bind (wpAny_loadPart_at atE (wpAny_pure ?_))
  refine wpAny_isSubtype_exc hC2 ?_
  have cC : List.contains (Value.ref C :: bm) (Value.ref C) = true := by
    rw [List.contains_cons, beq_self_eq_true, Bool.true_or]
  rw [cC]
  refine wpAny_ite_false (by rfl) ?_
  unfold callSpecial? specialOf typeOf
  refine wpAny_bind (wpAny_holding (wpAny_bind (wpAny_bind (wpAny_bind (wpAny_loadPart_at atE (wpAny_pure ?_))))))
  refine hi _ _ _ _ keep ?_
  refine wpAny_holding (wpAny_bind (hs _ _ _ _ _ keep ?_))
  refine wpAny_bind (wpAny_call (codeAny_mono hR ?_))
  intro r s' hr
  unfold W.InitBack at hr
  match r, hr with
  | .ok (.ret v), hr =>
    obtain ⟨rfl, hr⟩ := hr
    refine wpAny_pure ?_
    refine wpAny_ite_false (by rfl) ?_
    exact wpAny_pure hr
  | .error e, hr => exact hr

theorem qTC : ("type.__call__" : String).startsWith "lifetime." = false := by decide +kernel

theorem ecall {prog : Program} {w : World} {A : Around} {R : Result → Shared → Prop} {h : Heap} {g : Array GenState}
    {d : Drawn} {t : Nat} {os : OsState} {nm q : Str} {C N : Addr} {bs bm bmB : List Value} {hdct : Bool} {sn : List Str}
    {sub : List Value} {ab : Bool} {col : Option Bool} {dd : Option Addr} {k0 k1 k2 k3 k5 : Option Value}
    {B newId initId : String} (F : ExcBaseFacts B newId initId bmB)
    (hb : ∀ X : String, bm.contains (Value.type X) = bmB.contains (Value.type X))
    {rest : List Value} {kw : List (Str × Value)} {fI : Addr}
    (hC : h.get? C = some (excClassObj nm q C N bs bm hdct sn sub ab col dd k0 k1 k2 k3 k5 newId))
    (hi : W.Looks (model prog w) h (typeLookup (.ref C) (Str.ofString "__init__")) (some (.ref fI)))
    (hs : ∀ self : Value, W.Looks (model prog w) h (bindSpecial (.ref fI) self) (.ref fI, [self]))
    (hl : rest.length ≤ sizeLine)
    (hR : codeAny (model prog w) (A.under (.builtin "type.__call__" ⟨.ref C :: rest, kw⟩))
      (.call (.ref fI) ⟨.ref (h.objs.size + 1) :: rest, kw⟩) (W.InitBack (h.objs.size + 1) R)
      ⟨(h.push (W.kdv_tup rest)).push (HandSPX.excO C h.objs.size), g, d, t, os⟩) :
    codeAny (model prog w) A (.call (.ref C) ⟨rest, kw⟩) R ⟨h, g, d, t, os⟩ := by
  have hB : List.contains (Value.ref C :: bm) (Value.type B) = true := by
    rw [List.contains_cons, hb, F.hasB, Bool.or_true]
  refine codeAny_of_tree ?_
  show wpAny (model prog w) _ (callAny (.ref C) ⟨rest, kw⟩) _ _ _
  unfold callAny
  refine wpAny_bind (wpAny_load' hC ?_)
  show wpAny (model prog w) _ (callAny.viaDunder (.ref C) ⟨rest, kw⟩) _ _ _
  unfold callAny.viaDunder
  refine wpAny_bind (wpAny_specialOf (T := "type") ⟨_, hC, rfl⟩ tc_lookup ?_)
  refine wpAny_bind (wpAny_of_eq (tc_bind _) ?_)
  have pc : callAny.plainCallee (.builtin "type.__call__") = pure true := by
    unfold callAny.plainCallee
    rfl
  refine wpAny_bind (wpAny_of_eq pc ?_)
  refine wpAny_ite_true rfl ?_
  refine wpAny_pure ?_
  refine ⟨rfl, ?_⟩
  refine codeAny_call_builtin_at (Code.quiet_builtin _ qTC) entry_typeCall ?_
  have ck : ∀ (A' : Around) (E : Value → Shared → Prop) (Q : Unit → Shared → Prop), Q () ⟨h, g, d, t, os⟩ →
      wpAny (model prog w) A' (checkBuiltinCall "type.__call__" ⟨.ref C :: rest, kw⟩) Q E ⟨h, g, d, t, os⟩ := by
    intro A' E Q hQ
    have lk : W.Looks (model prog w) h (isInstance (.ref C) (.type "type")) true := by
      intro A Q E s hk hq
      obtain ⟨h2, g2, d2, t2, os2⟩ := s
      exact wpAny_isInstance (T := "type") (U := "type") (b := true) ⟨_, hk _ _ hC, rfl⟩ tc_sub hq
    have := @W.check_slot (model prog w) A' E ⟨h, g, d, t, os⟩ "type.__call__" "type" "__call__" (.ref C) rest kw Q
    exact this tc_kind tc_split lk (W.tc_args _ _ _) hQ
  have go := etype (A' := A) F hb hC hi hs hl hR
  exact ck _ _ _ go
end Mf
namespace Mf
open PySem L2
theorem kBG : builtinKind "BaseException.__getattribute__" = some Manifest.AttrKind.slot := by decide +kernel
theorem sBG : splitId "BaseException.__getattribute__" = some ("BaseException", "__getattribute__") := by decide +kernel
theorem kin_cls {prog : Program} {w : World} {A : Around} {E : Value → Shared → Prop} {s : Shared}
    {K : W.Frag} {x D : Addr} {ox od : Obj} {Q : Option Value → Shared → Prop} (C : ExcC K D)
    (X : K.In s.heap) (I : W.InstAt s.heap x ox D (some od))
    (h : Q (some (.ref D)) { heap := s.heap, gens := s.gens, drawn := s.drawn, toks := s.toks + 1, os := s.os }) :
    wpAny (model prog w) A (getAttr? (.ref x) (Str.ofString "__class__")) Q E s := by
  have hc : (W.clsIn K D).isSome = true := by
    obtain ⟨cd, hc, -⟩ := W.any_some C.hd
    rw [hc]; rfl
  have hf := W.findObj_data (od := od) hc C.ha C.hn C.ht
  obtain ⟨hp, g, d, t, os⟩ := s
  have L0 := W.InstAt.type I (M := model prog w)
  have L1 := W.looks_findIn X C.hg (M := model prog w)
  have L2 := W.looks_findIn X C.hk (M := model prog w)
  have L3 := W.looks_find X I hf (M := model prog w)
  have sub : W.Looks (model prog w) hp (isInstance (.ref x) (.type "BaseException")) true :=
    W.Looks.andThen L0 (W.looks_subIn X C.hs)
  unfold getAttr?
  refine wpAny_bind (wpAny_mkText ?_)
  unfold getAttrBy?
  refine wpAny_bind (wpAny_attempt (wpAny_holding ?_))
  refine wpAny_bind (L0.at (wpAny_bind (L1.at ?_)))
  dsimp only
  have e1 : (onTheHeap (.ref D) && (Value.builtin "BaseException.__getattribute__" == Value.builtin "object.__getattribute__")) = false := by
    rw [Bool.and_eq_false_iff]; exact .inr (by decide)
  rw [e1, if_neg Bool.false_ne_true]
  unfold getAttrByItsOwn hookBefore
  refine wpAny_bind ?_
  rw [if_pos (show onTheHeap (.ref D) = true from rfl)]
  refine L2.at ?_
  refine wpAny_bind (wpAny_attempt (wpAny_holding ?_))
  unfold callGetattribute
  rw [Bool.false_and, if_neg Bool.false_ne_true]
  unfold boundAndCalled
  refine wpAny_bind (wpAny_of_eq (F.excAttr_ValueError.ga.bind (.ref x)) ?_)
  refine wpAny_call ?_
  refine codeAny_call_builtin F.excAttr_ValueError.ga.plain F.entry_bexc_ga ?_
  have ck : ∀ (A' : Around) (E' : Value → Shared → Prop) (Q' : Unit → Shared → Prop) (s' : Shared), s'.heap = hp → Q' () s' →
      wpAny (model prog w) A' (checkBuiltinCall "BaseException.__getattribute__" ⟨[.ref x, .str (Str.ofString "__class__") t], []⟩) Q' E' s' := by
    intro A' E' Q' s' hh hq
    subst hh
    have := @W.check_slot (model prog w) A' E' s' "BaseException.__getattribute__" "BaseException" "__getattribute__" (.ref x) [.str (Str.ofString "__class__") t] [] Q'
    exact this kBG sBG sub (F.args_bexc_ga _ _) hq
  refine ck _ _ _ _ rfl ?_
  unfold Builtin.«object.__getattribute__»
  refine wpAny_bind (wpAny_of_eq rfl ?_)
  show wpAny (model prog w) _ (do
      let name ← Builtin.ObjectAttr.attrName (.str (Str.ofString "__class__") t)
      _) _ _ _
  refine wpAny_bind (wpAny_pure ?_)
  refine wpAny_bind (L0.at ?_)
  refine wpAny_bind (L3.at ?_)
  dsimp only
  unfold Builtin.ObjectAttr.bindTo
  refine wpAny_bind (wpAny_holding (wpAny_call (W.class_get X I C.hm ?_)))
  refine wpAny_pure ?_
  dsimp only
  rw [W.handedOut_of rfl]
  exact wpAny_pure (wpAny_pure h)
end Mf
namespace Mf
open PySem L2

theorem cls_look {K : W.Frag} {D : Addr} (h : W.hasDictIn K D = true) :
    ∃ c d cd sl, K.lookup D = some ⟨c, d, .cls cd, sl⟩ := by
  obtain ⟨cd, hc, -⟩ := W.any_some h
  unfold W.clsIn at hc
  split at hc
  · rename_i c d cd sl e; exact ⟨_, _, _, _, e⟩
  · exact absurd hc (by simp)

theorem kit_exo {K : W.Frag} {x D : Addr} {ox od : Obj} (C : ExcC K D) :
    W.KitX K (.ref x) (.ref D) fun h => W.InstAt h x ox D (some od) where
  ty := fun _ _ _ I => W.InstAt.type I
  it := by
    intro M h X _ A Q E s k q
    obtain ⟨c, d, cd, sl, e⟩ := cls_look C.hd
    exact wpAny_bind (wpAny_loadPart (k D _ (X D _ e)) (wpAny_pure q))
  ne := by
    intro h tp dd its n sl X ht
    obtain ⟨c, d, cd, sl', e⟩ := cls_look C.hd
    refine Bool.eq_false_iff.mpr fun q => ?_
    have e2 := Value.ref.inj (beq_iff_eq.mp q)
    subst e2
    have := (X D _ e).symm.trans ht
    simp at this
  ca := fun X I k => kin_cls C X I k

theorem inst_exo {P : Program} {w : World} {H : Hp} {h : Heap} {a D dx : Addr} {fs : List (Str × V)} (O : HOk P w H h)
    (ha : H a = some (exo a D (some dx))) (hd : H dx = some (exd dx fs)) :
    ∃ ox od, W.InstAt h a ox D (some od) ∧ ∀ f v, fs.lookup f = some v → ∃ u, W.lookIn f od = some (some u) ∧ RelV v u := by
  obtain ⟨⟨t1, e1⟩, -⟩ := O a _ ha
  obtain ⟨⟨mA, n1, r1⟩, -⟩ := O dx _ hd
  obtain ⟨od, ho, hl⟩ := lookIn_ns n1
  refine ⟨_, od, ⟨e1, rfl, rfl, ho⟩, fun f v hf => ?_⟩
  have r := r1 f
  rw [hf] at r
  obtain ⟨u, hu, ru⟩ := RelO.some_of r
  exact ⟨u, by rw [hl, hu], ru⟩

/-- an attribute of an error that lies in a variable -/
def tXa (K : W.Frag) (n : Str) (te : TE) : TE := fun σ H Q => te σ H fun x H1 =>
  ∃ (a D dx : Addr) (fs : List (Str × V)) (v : V), x = .ref a ∧ H1 a = some (exo a D (some dx)) ∧ H1 dx = some (exd dx fs) ∧
    XfC K D ∧ W.findIn K (.ref D) n = some none ∧ fs.lookup n = some v ∧ Q v H1

theorem pe_xa {X : Cx} {e : PySem.Expr} {te : TE} {pos : Pos} {n : Str} (he : PE X e te)
    (hb : attributeBase e n X.env (eval e X.env) = eval e X.env := by rfl) : PE X (.Attribute e n pos) (tXa X.K n te) := by
  refine ⟨fun pins s σ H Q I h => attr_of hb (thn (he.run pins s σ H _ I h) ?_)⟩
  rintro u s1 ⟨x, H1, I1, rx, a, D, dx, fs, v, rfl, ha, hd, T, hno, hf, q⟩
  obtain ⟨ox, od, J, hl⟩ := inst_exo I1.hok ha hd
  obtain ⟨u', hu, ru⟩ := hl _ _ hf
  have ex : u = .ref a := rx
  subst ex
  exact HandSPX.exc_get I1.kIn J T.ga T.gg T.exC (W.findObj_own T.hdC hno rfl hu) (handed_of ru) ⟨v, H1, I1.tok _, ru, q⟩

/-- isinstance of such an error -/
def rIsO (K : W.Frag) (xs : List V) (H : Hp) (Q : VK) : Prop :=
  ∃ (a D dx : Addr) (fs : List (Str × V)) (c : V) (cv : Value) (b : Bool), xs = [.ref a, c] ∧ H a = some (exo a D (some dx)) ∧
    H dx = some (exd dx fs) ∧ ExcC K D ∧ (∀ u, RelV c u → u = cv) ∧ W.kitOne K (.ref D) cv = some b ∧ Q (.bl b) H

theorem call_isO {X : Cx} : CallR X (.builtin "isinstance") (rIsO X.K) := by
  rintro pins s σ H xs us Q I r ⟨a, D, dx, fs, c, cv, b, rfl, ha, hd, C, hcv, hk, q⟩
  match us, r with
  | [_, _], .cons rx (.cons rc .nil) =>
    obtain ⟨ox, od, J, -⟩ := inst_exo I.hok ha hd
    have ex : _ = Value.ref a := rx
    subst ex
    rw [hcv _ rc]
    exact W.kia_one (kit_exo C) I.kIn J hk (by simp) fun tk => ⟨.bl b, H, I.tok _, rfl, q⟩
end Mf
/-! x[y] by an own __getitem__ that may raise, within a try; own errors raised. -/
namespace Mf
open PySem PySem.Spec PyProof.Rows L2
section
variable {X : Cx} {CX : CXT} {k : Nat} {f C a dx : Addr} {fd : FuncData} {ps : List Str} {sp : Sp} {E : L2.St → XK} {ds : List Value} {dvs : List V} {pins : List (Addr × Obj)} {σ : L2.St} {H : Hp} {s : Shared} {fs : List (Str × V)}
theorem run_inS {A : Around} {Q : VK} {us : List Value} {vs : List V} (F : FnOk X.prog X.w X.K X.mg X.base CX k f fd ps sp) (hr : Room k A) (hb : Binds X.K fd ps ds) (hd : Vals dvs ds) (hx : PassesAt CX X σ (E σ))
    (e0 : Env0 X.prog X.w X.K X.mg X.base A X.stack s H) (I : Inv X pins σ H s) (r : Vals vs us) (h : sp (vs ++ dvs) H Q (E σ)) : wpAny (model X.prog X.w) A (call (.ref f) us) (EP X pins σ Q) X.xe s := by
  have r2 : Vals (vs ++ dvs) (us ++ ds) := r.append hd
  have hl : (us ++ ds).length = ps.length := by rw [← r2.length]; exact F.len _ _ _ _ h
  refine wpAny_call (codeAny_mono (F.run A X.stack s H ⟨us, []⟩ (us ++ ds) (vs ++ dvs) Q (E σ) hr e0 (hb s us I.kIn hl) r2 h) fun r s' hq => ?_)
  rcases r with e | fl
  · exact hx pins H s e s' I hq
  · rcases fl with _ | _ | _ | u
    all_goals first | exact False.elim hq | exact I.after hq
/-- x[y], the def may raise -/
def tGetS (C : Addr) (sp : Sp) (E : L2.St → XK) (to ti : TE) : TE := fun σ H Q => to σ H fun x H1 => ti σ H1 fun y H2 => ∃ a dx fs, x = .ref a ∧ H2 a = some (.ins C dx fs) ∧ sp [x, y] H2 Q (E σ)
theorem pe_getS {o i : Expr} {to ti : TE} {pos : Pos} (m : Meth X.K C "__getitem__" f) (fn : PySem.W.fnIn X.K f = true) (F : FnOk X.prog X.w X.K X.mg X.base CX k f fd ps sp) (hr : Room (k + 1) X.A) (hb : Binds X.K fd ps []) (hx : ∀ σ, PassesAt CX X σ (E σ)) (ho : PE X o to) (hi : PE X i ti)
    (hsl : ∀ x y, subscripted i true x y = runValue (.builtin "lifetime.subscript" ⟨[x, y], []⟩) := by intro _ _; with_unfolding_all rfl) : PE X (.Subscript o i pos) (tGetS C sp E to ti) := by
  refine ⟨fun pins s σ H Q I h => ?_⟩
  refine Subscript_ (binT ho hi I h fun v u s2 x y H2 I2 rx ry q => ?_)
  obtain ⟨a, dx, fs, rfl, ha, q⟩ := q
  cases (show v = Value.ref a from rx)
  obtain ⟨od, J⟩ := Inv.inst I2 ha
  obtain ⟨mm, hF⟩ := I2.fr
  refine PySem.W.sub_K hF I2.ok.mod.kin J m.at_ fn m.fn ?_ (hsl _ _)
  exact run_inS (us := [.ref a, u]) (vs := [.ref a, y]) F hr.in1 hb .nil (hx σ) I2.env0.in1 I2 (.cons rfl (.cons ry .nil)) (by rw [List.append_nil]; exact q)
theorem om_getS {o i : Expr} {to ti : TE} {pos : Pos} (c : CalM X.prog X.w X.K X.mg X.base CX k C "__getitem__" ps sp) (hr : Room (k + 1) X.A) (hx : ∀ σ, PassesAt CX X σ (E σ)) (ho : PE X o to) (hi : PE X i ti)
    (hsl : ∀ x y, subscripted i true x y = runValue (.builtin "lifetime.subscript" ⟨[x, y], []⟩) := by intro _ _; with_unfolding_all rfl) : PE X (.Subscript o i pos) (tGetS C sp E to ti) := by
  obtain ⟨f, fd, M, fn, F, b⟩ := c.ex
  exact pe_getS M fn F hr b hx ho hi hsl
/-- f(..), f may raise -/
theorem pe_calS {x : Str} {p pos : Pos} {e : Expr} {es : List Expr} {t : TA} (c : Cal X.prog X.w X.K X.mg X.base CX k x ps sp) (hr : Room k X.A) (hx : ∀ σ, PassesAt CX X σ (E σ)) (ha : PA X (e :: es) t) (hg : Gl X x := by rfl)
    (hdb : (x == ("__debug__" : Str)) = false := by decide) (he : starEach (e :: es) X.env = (false, eval e X.env) :: starEach es X.env := by rfl) (hpl : (backTo pos (starEach es X.env)).any (·.1) = false := by rfl) :
    PE X (.Call (.Name x p) (e :: es) [] pos) (tCallS sp E t) := by
  obtain ⟨f, fd, F, m, kp, b⟩ := c.ex
  exact pe_callS F hr hg m kp b hx ha hdb he hpl
end
/-- an own error with one field: the class at C, its __init__ -/
structure ErC (P : Program) (w : World) (K : PySem.W.Frag) (mg : Str → Option Value) (base : Heap) (x : Str) (C : Addr) (ps : List Str) (sp : Sp) : Prop where
  ex : ∃ (f : Addr) (fd : FuncData), PySem.W.findIn K (.ref C) "__init__" = some (some (.ref f)) ∧ PySem.W.typeIn K (.ref f) = some (.type "function") ∧ FnOk P w K mg base CX0 1 f fd ps sp ∧ Binds K fd ps []
  oex : OexC K C
  xf : XfC K C
  mgC : mg x = some (.ref C)
  exm : PySem.W.exmOne K (.ref C) (.ref C) = some true
theorem pmk_er {X : Cx} {x : Str} {C : Addr} {ps : List Str} {sp : Sp} {e : Expr} {es : List Expr} {ta : TA} {p pos : Pos} (c : ErC X.prog X.w X.K X.mg X.base x C ps sp) (hr : Room 2 X.A) (hx : Passes CX0 X (fun _ _ _ => False)) (ha : PA X (e :: es) ta) (hg : Gl X x := by rfl)
    (hdb : (x == ("__debug__" : Str)) = false := by decide) (he : starEach (e :: es) X.env = (false, eval e X.env) :: starEach es X.env := by rfl) (hpl : (backTo pos (starEach es X.env)).any (·.1) = false := by rfl) :
    PMk X (.Call (.Name x p) (e :: es) [] pos) (tMkO C sp [] ta) := by
  obtain ⟨f, fd, i, t, F, b⟩ := c.ex
  exact pmk_oex c.oex i t F hr b .nil hx hg c.mgC ha hdb he hpl
end Mf
namespace Mf
open PySem L2
/-! ### the head -/
abbrev vTail : List Value := [.type "ValueError", .type "Exception", .type "BaseException", .type "object"]
/-- what stands in the fragment of an error class -/
structure ClF (K : PySem.W.Frag) (M C : Addr) (nm : Str) : Prop where
  ex : ∃ q N bs sn sub ab col dd k0 k1 k2 k3 k5, K.lookup C = some (excClassObj nm q C N bs (.ref M :: vTail) true sn sub ab col dd k0 k1 k2 k3 k5 "ValueError.__new__")
  sa : PySem.W.findIn K (.ref C) "__setattr__" = some (some (.builtin "object.__setattr__"))
  ty : PySem.W.typeIn K (.ref C) = some (.type "type")
  kc : PySem.W.keepIn K (.ref C) = true
  hg : PySem.W.findIn K (.ref C) "__getattribute__" = some (some (.builtin "BaseException.__getattribute__"))
  hk : PySem.W.findIn K (.ref C) "__getattr__" = some none
  ha : PySem.W.findIn K (.ref C) "__class__" = some (some (.builtin "object.__class__"))
  hd : PySem.W.hasDictIn K C = true
section
variable {K : PySem.W.Frag} {M C C' : Addr} {nm nm' : Str} {P : Program} {w : World} {mg : Str → Option Value} {base : Heap} {CX : CXT} {k : Nat} {x qual : Str} {st : Stmt} {f : Addr} {ps ks : List Str} {sp : Sp} {g : List Value → List Value → List Value} {gV : List V → List V → List V}
theorem ClF.cls (D : ClF K M C nm) : ∃ cd, PySem.W.clsIn K C = some cd ∧ cd.mro = .ref C :: .ref M :: vTail := by
  obtain ⟨q, N, bs, sn, sub, ab, col, dd, k0, k1, k2, k3, k5, l⟩ := D.ex
  refine ⟨{ hasDict := true, mro := .ref C :: .ref M :: vTail, name := nm, ns := N, bases := bs, qualname := q, slotNames := sn, abstract := ab, subclasses := sub, collection := col }, ?_, rfl⟩
  unfold PySem.W.clsIn
  rw [l]
theorem ClF.mro (D : ClF K M C nm) (b : Value) : PySem.W.mroIn K C b = some ((Value.ref C :: .ref M :: vTail).contains b) := by
  obtain ⟨cd, h, e⟩ := D.cls
  unfold PySem.W.mroIn
  rw [h]
  show (if cd.mro.isEmpty = true then none else some (cd.mro.contains b)) = _
  rw [e]; rfl
theorem ClF.oex (D : ClF K M C nm) : OexC K C := by
  obtain ⟨q, N, bs, sn, sub, ab, col, dd, k0, k1, k2, k3, k5, l⟩ := D.ex
  exact ⟨⟨_, _, _, _, _, _, _, _, _, _, _, _, _, _, _, l, rfl⟩, D.sa, (D.mro _).trans (by simp), D.ty, D.kc⟩
theorem ClF.exc (D : ClF K M C nm) (hn : PySem.W.specialIn K (.builtin "object.__class__") "__get__" = some (some (.builtin "getset_descriptor.__get__"))) (ht : PySem.W.takesIn K (.builtin "object.__class__") = some true) : ExcC K C :=
  ⟨D.hg, D.hk, (D.mro _).trans (by simp), D.hd, D.ha, hn, ht, (D.mro _).trans (by simp)⟩
theorem ClF.xf (D : ClF K M C nm) : XfC K C := ⟨D.hg, D.hk, (D.mro _).trans (by simp), D.hd⟩
theorem ClF.ne (D : ClF K M C nm) (D' : ClF K M C' nm') (h : nm ≠ nm') : C ≠ C' := by
  intro e
  subst e
  obtain ⟨q, N, bs, sn, sub, ab, col, dd, k0, k1, k2, k3, k5, l⟩ := D.ex
  obtain ⟨q', N', bs', sn', sub', ab', col', dd', k0', k1', k2', k3', k5', l'⟩ := D'.ex
  rw [l] at l'
  injection l' with l'
  injection l' with _ _ l' _
  injection l' with l'
  injection l' with l' _
  exact h l'
theorem ClF.kitS (D : ClF K M C nm) (D' : ClF K M C' nm') (n : C ≠ C') (m : C' ≠ M) : PySem.W.kitOne K (.ref C) (.ref C') = some false := by
  obtain ⟨cd, h, _⟩ := D'.cls
  unfold PySem.W.kitOne PySem.W.kitCls
  rw [if_neg (by simpa using n)]
  show (if ((PySem.W.clsIn K C').isSome && PySem.W.typeIn K (.ref C') == some (.type "type")) = true then PySem.W.mroIn K C (.ref C') else none) = some false
  rw [if_pos (by rw [h, D'.ty]; rfl), D.mro]
  simp [Ne.symm n, m]
theorem ClF.kitM (D : ClF K M C nm) (i : PySem.W.isClsIn K M = true) (t : PySem.W.typeIn K (.ref M) = some (.type "type")) : PySem.W.kitOne K (.ref C) (.ref M) = some true := by
  have i' : (PySem.W.clsIn K M).isSome = true := i
  unfold PySem.W.kitOne PySem.W.kitCls
  by_cases e : (Value.ref C == Value.ref M) = true
  · rw [if_pos e]
  · rw [if_neg e]
    show (if ((PySem.W.clsIn K M).isSome && PySem.W.typeIn K (.ref M) == some (.type "type")) = true then PySem.W.mroIn K C (.ref M) else none) = some true
    rw [if_pos (by rw [i', t]; rfl), D.mro]
    simp
theorem ClF.kitV (D : ClF K M C nm) : PySem.W.kitOne K (.ref C) (.type "ValueError") = some true := by
  unfold PySem.W.kitOne PySem.W.kitCls
  rw [if_neg (by simp)]
  show (if PySem.W.kitMeta "ValueError" = true then PySem.W.mroIn K C (.type "ValueError") else none) = some true
  rw [if_pos (by decide +kernel), D.mro]
  simp
theorem ClF.exm (D : ClF K M C nm) (i : PySem.W.isClsIn K C = true) : PySem.W.exmOne K (.ref C) (.ref C) = some true := by
  have i' : (PySem.W.clsIn K C).isSome = true := i
  have b : PySem.W.subIn K (.ref C) (.type "BaseException") = some true := (D.mro _).trans (by simp)
  unfold PySem.W.exmOne PySem.W.kitCls
  rw [b, if_pos (by simp)]
  show (if ((PySem.W.clsIn K C).isSome && PySem.W.typeIn K (.ref C) == some (.type "type")) = true then PySem.W.mroIn K C (.ref C) else none) = some true
  rw [if_pos (by rw [i', D.ty]; rfl), D.mro]
  simp
/-- an own error, by its facts -/
theorem MetF.erC (D : MetF K C "__init__" qual st f) (T : ClF K M C nm) (i : PySem.W.isClsIn K C = true) (tI : PySem.W.typeIn K (.ref f) = some (.type "function")) (hm : mg x = some (.ref C)) (hb : BindP "__init__" qual st ps)
    (ok : ∀ fd, Fun K "__init__" qual st f fd → FnOk P w K mg base CX0 1 f fd ps sp) : ErC P w K mg base x C ps sp := by
  obtain ⟨oc, od, sl, kV, dc, pm, an, cd, ct, a, l, c, q, i2, n⟩ := D.ex
  have F := fun_mk (st := st) l c q
  exact ⟨⟨f, _, a, tI, ok _ F, F.binds hb⟩, T.oex, T.xf, hm, T.exm i⟩
end
end Mf
/-! A walk over a list or a tuple; a def that is called with fewer arguments than it has; what is reached along steps. -/
namespace Mf
open PySem PySem.Spec PyProof.Rows L2
theorem same_SqL {K : PySem.W.Frag} {t : Addr} {H H' : Hp} {xs : List V} (x : Same H H') (h : SqL K H t xs) : SqL K H' t xs := by
  rcases h with (h | ⟨o, h⟩) | h
  · exact .inl (.inl (x _ _ h))
  · exact .inl (.inr ⟨o, x _ _ h⟩)
  · exact .inr h
theorem same_Seq {K : PySem.W.Frag} {t : Addr} {H H' : Hp} {xs : List V} (x : Same H H') (h : SqL K H t xs ∨ SqT K H t xs) : SqL K H' t xs ∨ SqT K H' t xs := h.imp (same_SqL x) x.tup
section
variable {X : Cx} {tg : Expr}
/-- a walk over a list or a tuple -/
def iSeq (K : PySem.W.Frag) (tl : TE) : TI := fun σ H R => tl σ H fun x H1 => ∃ a xs, x = .ref a ∧ (SqL K H1 a xs ∨ SqT K H1 a xs) ∧ ∀ (J : It) (G : Hp → Prop), Walk J xs.length G (YAt xs) → (∀ H', Same H1 H' → G H') → R J H1
theorem pi_seq {l : Expr} {tl : TE} (hl : PE X l tl) : PI X tg l (iSeq X.K tl) := by
  refine ⟨fun pins s σ H R I h => ?_⟩
  refine thn (hl.run pins s σ H _ I h) fun v s1 ⟨x, H1, I1, r1, q1⟩ => ?_
  obtain ⟨a, xs, e, hq | hq, q⟩ := q1
  · subst e
    cases r1
    obtain ⟨its, rv, p, hz⟩ := I1.list hq
    refine wpAny_pyIter_list p.isList ?_
    refine ⟨s1.heap.objs.size, [s1.heap.objs.size], _, _, H1, rfl, I1.kept (t' := s1.toks) fun b o e => Heap.get?_push_of_some _ e, turn_list a _, ⟨_, Heap.get?_push_size _ rfl, rfl, rfl⟩, fun b hb => ?_, q _ _ walk_list fun H' s => same_SqL s hq⟩
    have e : b = s1.heap.objs.size := by simpa using hb
    subst e
    exact I1.fpOk (Nat.le_refl _) (I1.hok.fresh (Nat.le_refl _))
  · subst e
    cases r1
    obtain ⟨its, rv, p, hz⟩ := I1.tuple hq
    refine wpAny_pyIter_tuple (show s1.heap.IsTuple a its.toArray from p) ?_
    refine ⟨s1.heap.objs.size, [s1.heap.objs.size], _, _, H1, rfl, I1.kept (t' := s1.toks) fun b o e => Heap.get?_push_of_some _ e, turn_tuple a _, ⟨_, Heap.get?_push_size _ rfl, rfl, rfl⟩, fun b hb => ?_, q _ _ walk_tup fun H' s => s.tup hq⟩
    have e : b = s1.heap.objs.size := by simpa using hb
    subst e
    exact I1.fpOk (Nat.le_refl _) (I1.hok.fresh (Nat.le_refl _))
theorem piS (K : PySem.W.Frag) {l : Expr} {tl : TE} (hl : PE X l tl) (h : X.K = K := by rfl) : PI X tg l (iSeq K tl) := h ▸ pi_seq hl
end
/-! ### name = {..} on one line, the name a local -/
section
variable {X : Cx}
theorem ps_setDc {i : Nat} {y : Str} {py : Pos} {kx vx tg iter : Expr} {ifs : List Expr} {scope : Scope} {own : List (Str × Nat)} {pos spos : Pos} {wi : TI} {g : TG} {tt : TT} {tk tv : TE} (hc : X.calm = true) (hN : X.N.Nodup) (hy : X.N[i]? = some y) (hyl : X.env.scope.names.lookup y = some .local)
    (hsw : swapsWith (.DictComp kx vx [⟨tg, iter, ifs, 0⟩] scope pos) (some (.Name y py)) spos.line X.env = pure true) (hi : PI X tg iter wi) (ok : BlkOk X.N X.env.scope scope own)
    (hg : ∀ (s : Shared) (H : Hp) (C : Addr) (cl : List (Str × Addr)) (fp : List Addr), PG (X.blk s H scope (compEnvC scope cl C X.env) fp) tg g) (ht : ∀ (s : Shared) (H : Hp) (C : Addr) (cl : List (Str × Addr)) (fp : List Addr), PTs (X.blk s H scope (compEnvC scope cl C X.env) fp) ifs tt)
    (hk : ∀ (s : Shared) (H : Hp) (C : Addr) (cl : List (Str × Addr)) (fp : List Addr), PE (X.blk s H scope (compEnvC scope cl C X.env) fp) kx tk)
    (he : ∀ (s : Shared) (H : Hp) (C : Addr) (cl : List (Str × Addr)) (fp : List Addr), PE (X.blk s H scope (compEnvC scope cl C X.env) fp) vx tv) (hs : ∀ x, foldedSetIterable iter X.env x = pure x := by intro _; rfl) :
    PS X (.Assign [.Name y py] (.DictComp kx vx [⟨tg, iter, ifs, 0⟩] scope pos) spos) (tAsg (tDc wi g tt tk tv (own.map (·.2))) (gName i)) := by
  refine ⟨fun pins s σ H D I h => ?_⟩
  rw [exec_Assign_Name_used _ _ _ _ hsw]
  refine wpAny_bind (wpAny_standAt (wpAny_bind ?_))
  show wpAny _ X.A (do let _ ← comprehension (.DictComp kx vx [⟨tg, iter, ifs, 0⟩] scope pos) scope X.env (firstIterPos [⟨tg, iter, ifs, 0⟩] pos) newDict false (eval iter X.env) (some (assign (.Name y py) X.env))) _ _ s
  have h : tDc wi g tt tk tv (own.map (·.2)) σ H (fun x H1 => gName i x σ H1 D.nx) := h
  refine wpAny_bind (thn (dc_core (Qf := fun _ s' => SP X pins D .next s') hc hN I hi ok hg ht hk he hs h fun L C s' m H' I' q hn f => ?_) fun _ s' hq => wpAny_pure (wpAny_pure hq))
  show wpAny _ _ (assign (.Name y py) X.env (.ref L)) _ _ _
  refine wpAny_assign_Name (store_ok2 (v := V.ref L) I' hN hy (.inl hyl) rfl (fun s2 I2 ⟨a, sb, ha⟩ => ?_) (.inr hyl))
  obtain ⟨f0, f1, f2, f3, f4, f5⟩ := f
  have haC : C ≠ a := by
    rcases ha with z | z
    · rw [z]; exact f1
    · exact fun e => f4 y a z e.symm
  refine ⟨m, hn.sameBut sb haC, fun h3 sb3 => ?_⟩
  exact ⟨_, H', I2.turned (t' := s2.toks) (fun b o hb e => (sb3.2 b hb).trans e) f0 f1 f3 f4 f5, q⟩
theorem sw_trueD {kx vx : Expr} {gs : List Comprehension} {scope : Scope} {pos py : Pos} {y : Str} {l : Nat} {env : Env} (hk : env.scope.kind = .function) (hy : env.scope.names.lookup y = some .local) (hl : (py.line == pos.line) = true)
    (ha : (scope.names.any fun (n, k) => n == y && (k == .local || k == .cell)) = false) : swapsWith (.DictComp kx vx gs scope pos) (some (.Name y py)) l env = pure true := by
  have ky : env.kindOf y = some .local := hy
  have hb : env.blockKind = .function := by unfold Env.blockKind; rw [hk]; rfl
  unfold swapsWith
  simp only [hb, ky, ha, Expr.pos, hl]
  rfl
end
/-- a def with default values, in which nothing is raised -/
theorem funD_ok {P : Program} {w : World} {K : PySem.W.Frag} {mg : Str → Option Value} {base : Heap} {x qual : Str} {params : Arguments} {body : List Stmt} {scope : Scope} {dvs : List V} {kws : List (Str × V)} {f : Addr} {fd : FuncData} {N ps : List Str} {k : Nat} {sp : Sp} (F : FunD K x qual params body scope dvs kws f fd) (S : FnScope N ps scope) (len : ∀ vs H Q E, sp vs H Q E → vs.length = ps.length)
    (hbody : ∀ (cdv : Value) (A : Around) (outer : List Env) (s : Shared) (H : Hp) (vs : List V) (Q : VK) (E : XK), Room k (A.deeper (envOfC qual scope s.heap.objs.size f cdv)) → sp vs H Q E →
      ∃ t, PSs (cxOf CX0 P w K mg base N qual scope f cdv A outer s H E).nox body t ∧ t { nx := fun _ H' => Q .non H', rt := Q } (start N vs) H) : FnOk P w K mg base CX0 (k + 1) f fd ps sp :=
  F.ok S len fun cdv A outer s H vs Q E hr hsp =>
    let ⟨t, h, q⟩ := hbody cdv A outer s H vs Q E hr hsp
    ⟨t, h.nox, q⟩
/-! ### a list of truths -/
theorem lc_bools {J : It} {G : Hp → Prop} {xs : List V} {fs : List Bool} (w : Walk J xs.length G (YAt xs)) {g : TG} {tt : TT} {te : TE} {vs : List Nat} {σ : L2.St} {H0 : Hp} {D : Addr} {Qd : Hp → Prop} (hl : fs.length = xs.length) (few : fs.length ≤ 4000) (hD : H0 D = none) (hG : ∀ H, Same H0 H → G H)
    (hs : ∀ (i : Nat) (x : V) (b : Bool) (H' : Hp) (Qe : VK) (Pf : Hp → Prop), xs[i]? = some x → fs[i]? = some b → Same H0 H' → (∀ H3, Same H' H3 → Qe (.bl b) H3) → g x (wipe σ vs) H' fun σ2 H2 => wipe σ2 vs = wipe σ vs ∧ tt σ2 H2 fun c H3 => if c = true then te σ2 H3 Qe else Pf H3)
    (hd : ∀ H, Same H0 H → H D = some (.lst (fs.map V.bl)) → Qd H) :
    ∃ W : Nat → Nat → Hp → Prop, (∃ m, W 0 m (upd H0 D (.lst []))) ∧ ∀ i m H, W i m H →
      (J.stop i H ∧ Qd H) ∨ (J.go i H ∧ ∃ Nx : Hp → Prop, (∀ H', Nx H' → ∃ m', m' < m ∧ W (i + 1) m' H') ∧ ∀ x H', J.yld i H x H' → g x (wipe σ vs) H' fun σ2 H2 => wipe σ2 vs = wipe σ vs ∧ tt σ2 H2 fun b H3 =>
        if b = true then te σ2 H3 fun y H4 => ∃ acc, H4 D = some (.lst acc) ∧ acc.length < sizeLine ∧ Nx (upd H4 D (.lst (acc ++ [y]))) else Nx H3) := by
  refine lc_it w (fun i H' => Same H0 H' ∧ H' D = some (.lst ((fs.take i).map V.bl))) ⟨Same.new hD, upd_same⟩ (fun i H' _ q => hG _ q.1) ?_ fun H' ⟨s1, h1⟩ => hd H' s1 (by rw [← hl, List.take_length] at h1; exact h1)
  rintro i x _ H1 hi ⟨s1, h1⟩ ⟨rfl, hx⟩
  have hb := List.getElem?_eq_getElem (show i < fs.length by omega)
  refine hs i x fs[i] H1 _ _ hx hb s1 fun H3 s3 => ⟨_, s3 _ _ h1, ?_, (s1.trans s3).mut hD, ?_⟩
  · rw [List.length_map]
    exact Nat.lt_of_le_of_lt (List.length_take_le _ _) (Nat.lt_of_lt_of_le (by omega : i < 4000) (by decide))
  · rw [upd_same, List.take_add_one, hb, List.map_append]; rfl
/-- all of them true -/
theorem lc_yes {J : It} {G : Hp → Prop} {xs : List V} (w : Walk J xs.length G (YAt xs)) {g : TG} {tt : TT} {te : TE} {vs : List Nat} {σ : L2.St} {H0 : Hp} {D : Addr} {Qd : Hp → Prop} (few : xs.length ≤ 4000) (hD : H0 D = none) (hG : ∀ H, Same H0 H → G H)
    (hs : ∀ (i : Nat) (x : V) (H' : Hp) (Qe : VK) (Pf : Hp → Prop), xs[i]? = some x → Same H0 H' → (∀ H3, Same H' H3 → Qe (.bl true) H3) → g x (wipe σ vs) H' fun σ2 H2 => wipe σ2 vs = wipe σ vs ∧ tt σ2 H2 fun c H3 => if c = true then te σ2 H3 Qe else Pf H3)
    (hd : ∀ (H : Hp) (fs : List Bool), Same H0 H → H D = some (.lst (fs.map V.bl)) → fs.all id = true → Qd H) :
    ∃ W : Nat → Nat → Hp → Prop, (∃ m, W 0 m (upd H0 D (.lst []))) ∧ ∀ i m H, W i m H →
      (J.stop i H ∧ Qd H) ∨ (J.go i H ∧ ∃ Nx : Hp → Prop, (∀ H', Nx H' → ∃ m', m' < m ∧ W (i + 1) m' H') ∧ ∀ x H', J.yld i H x H' → g x (wipe σ vs) H' fun σ2 H2 => wipe σ2 vs = wipe σ vs ∧ tt σ2 H2 fun b H3 =>
        if b = true then te σ2 H3 fun y H4 => ∃ acc, H4 D = some (.lst acc) ∧ acc.length < sizeLine ∧ Nx (upd H4 D (.lst (acc ++ [y]))) else Nx H3) := by
  refine lc_bools (fs := List.replicate xs.length true) w (by simp) (by simpa using few) hD hG (fun i x b H' Qe Pf hx hb s1 k => ?_) fun H s1 h1 => hd H _ s1 h1 (by simp)
  have e : b = true := by
    have := List.mem_of_getElem? hb
    exact (List.mem_replicate.mp this).2
  subst e
  exact hs i x H' Qe Pf hx s1 k
/-! ### a def called with its last parameters left to their defaults -/
structure CalD (P : Program) (w : World) (K : PySem.W.Frag) (mg : Str → Option Value) (base : Heap) (CX : CXT) (k : Nat) (x : Str) (ps : List Str) (sp : Sp) (dvs : List V) : Prop where
  ex : ∃ (f : Addr) (fd : FuncData) (ds : List Value), FnOk P w K mg base CX k f fd ps sp ∧ mg x = some (.ref f) ∧ PySem.W.keepIn K (.ref f) = true ∧ Binds K fd ps ds ∧ Vals dvs ds
theorem pe_cald {X : Cx} {CX : CXT} {k : Nat} {x : Str} {ps : List Str} {sp : Sp} {dvs : List V} {E : XK} {e : Expr} {es : List Expr} {t : TA} {p pos : Pos} (c : CalD X.prog X.w X.K X.mg X.base CX k x ps sp dvs) (hr : Room k X.A) (hx : Passes CX X E) (ha : PA X (e :: es) t) (hg : Gl X x := by rfl)
    (hdb : (x == ("__debug__" : Str)) = false := by decide) (he : starEach (e :: es) X.env = (false, eval e X.env) :: starEach es X.env := by rfl) (hpl : (backTo pos (starEach es X.env)).any (·.1) = false := by rfl) :
    PE X (.Call (.Name x p) (e :: es) [] pos) (tCall sp dvs E t) := by
  obtain ⟨f, fd, ds, F, m, kp, b, v⟩ := c.ex
  exact pe_call F hr hg m kp b v hx ha hdb he hpl

/-- x in t, t a tuple of data -/
def rInDT (K : PySem.W.Frag) : R2 := fun x y H Q => ∃ d ds, Dp K H x d ∧ Dp K H y (.tuple ds) ∧ SeqAt.shaped d = true ∧ SeqAt.shaped (.tuple ds) = true ∧ Q (.bl (ds.any fun z => PyData.eqv z d)) H
theorem op_inDT {X : Cx} (hu : X.A.units + 65 < cLine) : OpR X (compareOp .In) (rInDT X.K) := by
  intro pins s σ H x y v u Q I rx ry h
  obtain ⟨d, ds, hd, he, sd, se, q⟩ := h
  obtain ⟨as, r1⟩ := Dp.reads I d x v hd rx
  obtain ⟨bs, r2⟩ := Dp.reads I (.tuple ds) y u he ry
  exact SeqAt.in_tuple_reads r2 r1 (SeqAt.canLay_of_shaped se) (SeqAt.canLay_of_shaped sd) (room_in_shaped sd hu) ⟨.bl _, H, I, rfl, q⟩
theorem inDT {X : Cx} (K : PySem.W.Frag) {k : Nat} (hr : Room (k + 1) X.A) (h : X.K = K := by rfl) : OpR X (compareOp .In) (rInDT K) := h ▸ op_inDT (Room.in1 hr).units
/-- a def with keyword-only parameters, called with keywords ks -/
structure CalK (P : Program) (w : World) (K : PySem.W.Frag) (mg : Str → Option Value) (base : Heap) (CX : CXT) (k : Nat) (x : Str) (ps : List Str) (sp : Sp) (n : Nat) (ks : List Str) (gV : List V → List V → List V) : Prop where
  ex : ∃ (f : Addr) (fd : FuncData) (g : List Value → List Value → List Value), FnOk P w K mg base CX k f fd ps sp ∧ mg x = some (.ref f) ∧ PySem.W.keepIn K (.ref f) = true ∧ KBn K fd ps n ks g gV
theorem pe_calk {X : Cx} {CX : CXT} {k n : Nat} {x : Str} {ps ks : List Str} {sp : Sp} {gV : List V → List V → List V} {E : XK} {e : Expr} {es : List Expr} {kws : List Keyword} {t tk : TA} {p pos : Pos} (c : CalK X.prog X.w X.K X.mg X.base CX k x ps sp n ks gV) (hr : Room k X.A) (hx : Passes CX X E) (ha : PA X (e :: es) t) (hkw : PK X kws tk) (hg : Gl X x := by rfl)
    (hall : (backToKw pos (keywordEach kws X.env)).all (·.1.isSome) = true := by rfl) (hks : (backToKw pos (keywordEach kws X.env)).filterMap (·.1) = ks := by rfl)
    (hdb : (x == ("__debug__" : Str)) = false := by decide) (he : starEach (e :: es) X.env = (false, eval e X.env) :: starEach es X.env := by rfl)
    (hpl : ((backTo pos (starEach (e :: es) X.env)).any (·.1) || (backToKw pos (keywordEach kws X.env)).any (·.1.isNone)) = false := by rfl) :
    PE X (.Call (.Name x p) (e :: es) kws pos) (tCallN n ks.length sp gV E t tk) := by
  obtain ⟨f, fd, g, F, m, kp, b⟩ := c.ex
  exact pe_callN F hr hg m kp b hx ha hkw hall hks hdb he hpl
/-- C(..) of a class that stands in a local name -/
theorem pe_mkl {X : Cx} {CX : CXT} {k : Nat} {x y : Str} {C : Addr} {ps : List Str} {sp : Sp} {dvs : List V} {E : XK} {e : Expr} {es : List Expr} {t : TA} {p pos : Pos} {te : TE} (c : CalC X.prog X.w X.K X.mg X.base CX k x C ps sp dvs) (hr : Room (k + 1) X.A) (hx : Passes CX X E) (hn : PE X (.Name y p) te) (ha : PA X (e :: es) t)
    (he : starEach (e :: es) X.env = (false, eval e X.env) :: starEach es X.env := by rfl) (hpl : (backTo pos (starEach es X.env)).any (·.1) = false := by rfl) :
    PE X (.Call (.Name y p) (e :: es) [] pos) (fun σ H Q => te σ H fun v H1 => v = .ref C ∧ tMake C sp dvs E t σ H1 Q) := by
  obtain ⟨f, fd, ds, M, F, mm, b, v⟩ := c.ex
  refine ⟨fun pins s σ H Q I h => ?_⟩
  refine wpAny_Call_Name_kw (thn (hn.run pins s σ H _ I h) fun u s1 ⟨w, H1, I1, rw, ew, q⟩ => ?_)
  subst ew
  obtain rfl : u = Value.ref C := rw
  refine PySem.W.callWith_K (h₀ := X.base) I1.ok.mod.kin M.kp (thn (ha.run pos pins s1 σ H1 _ I1 q) fun us s2 ⟨vs, H2, I2, r, q⟩ => ⟨I2.kIn, ?_⟩) he hpl
  exact run_make M F hr b v hx I2 r q
/-! ### what is reached along steps -/
/-- a step of y, of one of the kinds, names z -/
def Suc (x : List Pc) (kds : List Str) (y z : Str) : Prop := ∃ ss, (y, ss) ∈ x ∧ ∃ s ∈ ss, s.1 ∈ kds ∧ s.2 = z
inductive Rch (S : Str → Str → Prop) (out : Str → Prop) (st : Str → Prop) : Str → Prop
  | base {z : Str} (h : st z) (n : ¬ out z) : Rch S out st z
  | step {y z : Str} (h : Rch S out st y) (s : S y z) (n : ¬ out z) : Rch S out st z
theorem Rch.sub {S : Str → Str → Prop} {out st : Str → Prop} {fl : Str → Prop} (h1 : ∀ z, st z → ¬ out z → fl z) (h2 : ∀ y z, fl y → S y z → ¬ out z → fl z) : ∀ {z}, Rch S out st z → fl z := fun h => by
  induction h with
  | base h n => exact h1 _ h n
  | step _ s n ih => exact h2 _ _ ih s n
theorem Rch.mono {S : Str → Str → Prop} {out st st' : Str → Prop} (h : ∀ z, st z → ¬ out z → Rch S out st' z) {z : Str} (r : Rch S out st z) : Rch S out st' z := r.sub h fun _ _ a b c => .step a b c
theorem pc_one : ∀ {x : List Pc} {y : Str} {ss tt : List Step}, (x.map (·.1)).Nodup → (y, ss) ∈ x → (y, tt) ∈ x → tt = ss
  | [], _, _, _, _, h, _ => by cases h
  | a :: x, y, ss, tt, nd, h, g => by
    rw [List.map_cons, List.nodup_cons] at nd
    rcases List.mem_cons.mp h with h1 | h1
    · rcases List.mem_cons.mp g with g1 | g1
      · rw [← h1] at g1
        exact (Prod.mk.injEq .. ▸ g1).2
      · exact absurd (List.mem_map.mpr ⟨(y, tt), g1, by rw [← h1]⟩) nd.1
    · rcases List.mem_cons.mp g with g1 | g1
      · exact absurd (List.mem_map.mpr ⟨(y, ss), h1, by rw [← g1]⟩) nd.1
      · exact pc_one nd.2 h1 g1
theorem Suc.one {x : List Pc} {kds : List Str} {y z : Str} {ss : List Step} (nd : (x.map (·.1)).Nodup) (h : (y, ss) ∈ x) : Suc x kds y z ↔ ∃ s ∈ ss, s.1 ∈ kds ∧ s.2 = z :=
  ⟨fun ⟨tt, h2, q⟩ => by rw [pc_one nd h h2] at q; exact q, fun q => ⟨ss, h, q⟩⟩

/-! ### all but lists and dicts stays -/
def NoLD (o : HO) : Prop := (∀ xs, o ≠ .lst xs) ∧ ∀ k, o ≠ .dK k
def SameT (H H' : Hp) : Prop := ∀ b o, NoLD o → H b = some o → H' b = some o
theorem SameT.refl {H : Hp} : SameT H H := fun _ _ _ h => h
theorem SameT.of {H H' : Hp} (x : Same H H') : SameT H H' := fun b o _ h => x b o h
theorem SameT.trans {H H1 H2 : Hp} (x : SameT H H1) (y : SameT H1 H2) : SameT H H2 := fun b o n h => y b o n (x b o n h)
theorem SameT.putL {H H1 : Hp} {p : Addr} {xs : List V} {o : HO} (x : SameT H H1) (h : H1 p = some (.lst xs)) : SameT H (upd H1 p o) := fun b u n e => by
  have q := x b u n e
  rw [upd_ne (fun z => by rw [z, h] at q; exact n.1 xs (Option.some.inj q).symm)]
  exact q
theorem SameT.putD {H H1 : Hp} {p : Addr} {xs : List (Key × V)} {o : HO} (x : SameT H H1) (h : H1 p = some (.dK xs)) : SameT H (upd H1 p o) := fun b u n e => by
  have q := x b u n e
  rw [upd_ne (fun z => by rw [z, h] at q; exact n.2 xs (Option.some.inj q).symm)]
  exact q
theorem noLD_tup {xs : List V} : NoLD (.tup xs) := ⟨(fun _ h => nomatch h), (fun _ h => nomatch h)⟩
theorem SameT.tup {K : PySem.W.Frag} {t : Addr} {H H' : Hp} {xs : List V} (x : SameT H H') (h : SqT K H t xs) : SqT K H' t xs := by
  rcases h with (h | ⟨o, h⟩) | h
  · exact .inl (.inl (x _ _ noLD_tup h))
  · exact .inl (.inr ⟨o, x _ _ ⟨(fun _ h => nomatch h), (fun _ h => nomatch h)⟩ h⟩)
  · exact .inr h
theorem take_not {α : Type} {xs : List α} {i : Nat} {z : α} (nd : xs.Nodup) (h : xs[i]? = some z) : ¬ z ∈ xs.take i := fun m => by
  have e : xs.take (i + 1) = xs.take i ++ [z] := by rw [List.take_add_one, h]; rfl
  have n : (xs.take (i + 1)).Nodup := (List.take_sublist _ _).nodup nd
  rw [e, List.nodup_append] at n
  exact n.2.2 z m z (List.mem_singleton.mpr rfl) rfl
end Mf
/-! for i, x in enumerate(xs), xs a list or a tuple -/
namespace Mf
open PySem PySem.Spec PyProof.Rows L2
set_option maxHeartbeats 1000000 in
theorem meets_enum1 {v : Value} {o : Obj} {Hh : Heap → Prop} (B : Begins v o Hh) : Meets (Builtin.«enumerate.__new__» ⟨[.type "enumerate", v], []⟩) (fun _ R s => Hh s.heap ∧
    R (.ok (.ret (.ref (s.heap.push o).objs.size))) { s with heap := (s.heap.push o).push { cls := .type "enumerate", data := .fields #[.none, .bool false, .ref s.heap.objs.size, rawInt 0, .none, .none] } }) := by
  refine .of_wp fun prog w A R s => ?_
  rcases s with ⟨hp, g, d, tk, os⟩
  rintro ⟨h1, h⟩
  have sub := sub_enumerate
  have begun : ∀ {A' : Around} {E : Value → Shared → Prop} {Q : Value → Shared → Prop}, Q (.ref hp.objs.size) ⟨hp.push o, g, d, tk, os⟩ → wpAny (model prog w) A' (pyIter v) Q E ⟨hp, g, d, tk, os⟩ := fun k => B.iter prog w _ _ ⟨hp, g, d, tk, os⟩ _ h1 k
  wp_walk using begun
  refine wpAny_stack_any fun st => wpAny_pure ?_
  split
  · rename_i c _ _ _ _ _
    cases c == Value.type "enumerate" <;> (wp_walk using begun; exact ⟨_, rfl, h⟩)
  · wp_walk using begun; exact ⟨_, rfl, h⟩
theorem enum1_begins {prog : Program} {w : World} {A : Around} {E : Value → Shared → Prop} {s : Shared} {v : Value} {o : Obj} {Hh : Heap → Prop} {Q : Value → Shared → Prop} (B : Begins v o Hh) (h1 : Hh s.heap)
    (h : ∀ h', IsEnum h' (s.heap.objs.size + 1) s.heap.objs.size 0 .none → h'.get? s.heap.objs.size = some o → (∀ b q, s.heap.get? b = some q → h'.get? b = some q) → Q (.ref (s.heap.objs.size + 1)) { s with heap := h' }) :
    wpAny (model prog w) A (call (.type "enumerate") [v]) Q E s := by
  have sz : (s.heap.push o).objs.size = s.heap.objs.size + 1 := Heap.size_push ..
  have en : IsEnum ((s.heap.push o).push { cls := .type "enumerate", data := .fields #[.none, .bool false, .ref s.heap.objs.size, rawInt 0, .none, .none] }) (s.heap.push o).objs.size s.heap.objs.size 0 .none := Heap.get?_push_size _ rfl
  refine callType_new F.called_enumerate (by decide) (F.typeCall_enumerate_1 _) (F.newCall_enumerate_1 _) (fun obj => F.args_object_init_2 obj _) F.entry_enumerate_new (meets_enum1 B) ⟨h1, ?_⟩
  rw [sz] at en
  show _ ∧ _
  rw [sz]
  exact ⟨⟨_, en, rfl⟩, h _ en (Heap.get?_push_of_some _ (Heap.get?_push_size _ B.free)) fun b q e => Heap.get?_push_of_some _ (Heap.get?_push_of_some _ e)⟩
theorem pi_enumA {X : Cx} {e : Expr} {ta : TA} {p pos tpos : Pos} {elts : List Expr} {kk : Nat} (hg : Gl X "enumerate") (hm : X.mg "enumerate" = none) (ha : PA X [e] ta)
    (hs : starEach [e] X.env = [(false, eval e X.env)] := by rfl) : PI X (.Tuple elts kk tpos) (.Call (.Name "enumerate" p) [e] [] pos) (iEnumS X.K 0 ta) := by
  refine ⟨fun pins s σ H R I h => Call_ (ld_blt I hg hm PyProof.Rows.boot_enumerate (PyProof.Rows.callWith_type1 (thn (ha.run pos pins s σ H _ I h) ?_) hs rfl))⟩
  rintro us s1 ⟨vs, H1, I1, r1, a, xs, rfl, q1⟩
  rw [Vals.ref1 r1]
  have fresh : ∀ b ∈ [s1.heap.objs.size + 1, s1.heap.objs.size], FpOk X pins H1 b := fun b hb => by
    simp only [List.mem_cons, List.not_mem_nil, or_false] at hb
    rcases hb with rfl | rfl
    · exact I1.fpOk (Nat.le_succ _) (I1.hok.fresh (Nat.le_succ _))
    · exact I1.fpOk (Nat.le_refl _) (I1.hok.fresh (Nat.le_refl _))
  rcases q1 with ⟨hq, q⟩ | ⟨hq, q⟩
  · obtain ⟨its, rv, p', hz⟩ := I1.list hq
    refine enum1_begins (begins_list a its.toArray) p'.isList fun h' he ho hk => wpAny_pyIter_enum he ?_
    exact ⟨_, [s1.heap.objs.size + 1, s1.heap.objs.size], _, _, H1, rfl, I1.kept (t' := s1.toks) hk, turn_fromL 0 _ _ a, ⟨⟨_, by simpa using he⟩, ⟨_, ho, rfl, rfl⟩, Nat.succ_ne_self _⟩, fresh, q⟩
  · obtain ⟨its, rv, p', hz⟩ := I1.tuple hq
    refine enum1_begins (begins_tuple a its.toArray) (isTuple_of p') fun h' he ho hk => wpAny_pyIter_enum he ?_
    exact ⟨_, [s1.heap.objs.size + 1, s1.heap.objs.size], _, _, H1, rfl, I1.kept (t' := s1.toks) hk, turn_fromT 0 _ _ a, ⟨⟨_, by simpa using he⟩, ⟨_, ho, rfl, rfl⟩, Nat.succ_ne_self _⟩, fresh, q⟩
end Mf
/-! A def with one parameter and a rest. -/
namespace Mf
open PySem L2
theorem fn_star1 {P : Program} {w : World} {K : PySem.W.Frag} {mg : Str → Option Value} {base : Heap} {k : Nat} {x qual : Str} {st : Stmt} {f : Addr} {fd : FuncData} {N : List Str} {p1 pv : Str} {sp : Sp}
    (F : Fun K x qual st f fd) (sc : FnScope N [p1, pv] (defScope st))
    (b0 : ∀ kV doc pm an cdv ct (a : Value), bindArgs (PySem.W.fnOf x qual (defArgs st) (defBody st) (defScope st) .none kV doc pm an cdv ct) { pos := [a] } = do
      let t ← newTuple []
      pure [(p1, a), (pv, t)])
    (b1 : ∀ kV doc pm an cdv ct (a r : Value) (rs : List Value), bindArgs (PySem.W.fnOf x qual (defArgs st) (defBody st) (defScope st) .none kV doc pm an cdv ct) { pos := a :: r :: rs } = do
      let t ← newTuple (r :: rs)
      pure [(p1, a), (pv, t)])
    (h : ∀ (cdv : Value) (A : Around) (outer : List Env) (s : Shared) (H : Hp) (vs : List V) (Q : VK) (E : XK), Room k (A.deeper (PyProof.Rows.envOfC qual (defScope st) s.heap.objs.size f cdv)) → sp vs H Q E →
      ∃ t, PSs (cxOf CX0 P w K mg base N qual (defScope st) f cdv A outer s H E).nox (defBody st) t ∧ t { nx := fun x H' => Q V.non H', rt := Q } (L2.start N vs) H) :
    FnR P w K mg base CX0 (k + 1) f fun vs H Q E => ∃ (a : V) (rest : List V), vs = a :: rest ∧ rest.length ≤ sizeLine ∧ ∀ p, H p = none → sp [a, .ref p] (upd H p (.tup rest)) Q E := by
  obtain ⟨oc, od, kV, doc, pm, an, cdv, ct, osl, rfl, hl, hc⟩ := F.ex
  have z := StX.fn_star (CX := CX0) (P := P) (w := w) (mg := mg) (base := base) (k := k) (N := N) (ps := [p1]) (pv := pv) (sp := sp) hl hc sc StX.cxUp_none (StX.bind_star1 (B := fun l => bindArgs (PySem.W.fnOf x qual (defArgs st) (defBody st) (defScope st) .none kV doc pm an cdv ct) { pos := l }) (fun a => b0 kV doc pm an cdv ct a) (fun a r rs => b1 kV doc pm an cdv ct a r rs)) (fun A outer s H vs Q E hr q => by
    obtain ⟨t, a, b⟩ := h cdv A outer s H vs Q E hr q
    exact ⟨t, a.nox, b⟩)
  intro A outer s H us vs Q E hr e0 hv ⟨a, rest, e, l, q⟩
  exact z A outer s H us vs Q E hr e0 hv ⟨[a], rest, e, rfl, l, q⟩
theorem MetF.star {P : Program} {w : World} {K : PySem.W.Frag} {mg : Str → Option Value} {base : Heap} {CX : CXT} {k : Nat} {m qual : Str} {st : Stmt} {f C : Addr} {sp : Sp} (D : MetF K C m qual st f) (ok : ∀ fd, Fun K m qual st f fd → FnR P w K mg base CX k f sp) : Meth K C m f ∧ FnR P w K mg base CX k f sp := by
  obtain ⟨oc, od, sl, kV, dc, pm, an, cd, ct, a, l, c, q, i, n⟩ := D.ex
  exact ⟨⟨a, i, q⟩, ok _ (fun_mk (st := st) l c q)⟩
end Mf
/-! A method with a rest that may raise. -/
namespace Mf
open PySem PySem.Spec PyProof.Rows L2
section
variable {X : Cx} {CX : CXT} {k : Nat} {C f : Addr} {m : Str} {sp : Sp} {E : L2.St → XK} {o e : Expr} {es : List Expr} {ta : TE} {t : TA} {apos pos : Pos}
/-- o.m(..) of a def with a rest, which may raise -/
def tMethRS (C : Addr) (m : Str) (sp : Sp) (E : L2.St → XK) (ta : TE) (t : TA) : TE := fun σ H Q => ta σ H fun x H1 => ∃ a dx fs, x = .ref a ∧ H1 a = some (.ins C dx fs) ∧ fs.lookup m = none ∧ t σ H1 fun vs H2 => sp (x :: vs) H2 Q (E σ)
theorem pe_methRS {pl : Sem Bool} (c : Cls X.K C) (mt : Meth X.K C m f) (F : FnR X.prog X.w X.K X.mg X.base CX k f sp) (hr : Room k X.A) (hx : ∀ σ, PassesAt CX X σ (E σ)) (he : PE X o ta) (ha : PA X (e :: es) t)
    (hst : starEach (e :: es) X.env = (false, eval e X.env) :: starEach es X.env := by rfl) (hpl : (backTo pos (starEach es X.env)).any (·.1) = false := by rfl)
    (ht : eval (.Call (.Attribute o m apos) (e :: es) [] pos) X.env = (do let ov ← eval o X.env; standAt apos.atName; let (f, first) ← holding [ov] (getMethod ov m pl); callWith pos f first (backTo pos (starEach (e :: es) X.env)) (backToKw pos (keywordEach [] X.env))) := by rfl) :
    PE X (.Call (.Attribute o m apos) (e :: es) [] pos) (tMethRS C m sp E ta t) := by
  constructor
  intro pins s σ H Q I h
  refine PySem.W.methodCall_KW (pl := pl) (thn (he.run pins s σ H _ I h) fun u s2 ⟨x, H2, J, rel, q⟩ => ?_) ht
  obtain ⟨a, dx, fs, rfl, ha2, lk, q⟩ := q
  obtain rfl : u = Value.ref a := rel
  refine getmeth_ok J ha2 c mt lk ?_
  refine PySem.W.callWith_K J.kIn mt.kp (thn (ha.run pos _ s2 σ H2 _ J q) fun us s4 ⟨vs, H4, J4, rv, q4⟩ => ⟨J4.kIn, ?_⟩) hst hpl
  refine wpAny_call (codeAny_mono (F X.A X.stack s4 H4 (.ref a :: us) (.ref a :: vs) Q (E σ) hr J4.env0 (.cons rfl rv) q4) fun res s5 hres => ?_)
  rcases res with e | _ | _ | _ | u
  · exact hx σ _ _ _ e s5 J4 hres
  all_goals first | exact False.elim hres | exact J4.after hres
theorem pe_methRS0 {pl : Sem Bool} (c : Cls X.K C) (mt : Meth X.K C m f) (F : FnR X.prog X.w X.K X.mg X.base CX k f sp) (hr : Room k X.A) (hx : ∀ σ, PassesAt CX X σ (E σ)) (he : PE X o ta)
    (ht : eval (.Call (.Attribute o m apos) [] [] pos) X.env = (do let ov ← eval o X.env; standAt apos.atName; let (f, first) ← holding [ov] (getMethod ov m pl); callWith pos f first (backTo pos (starEach [] X.env)) (backToKw pos (keywordEach [] X.env))) := by rfl) :
    PE X (.Call (.Attribute o m apos) [] [] pos) (tMethRS C m sp E ta tNil) := by
  constructor
  intro pins s σ H Q I h
  refine PySem.W.methodCall_KW (pl := pl) (thn (he.run pins s σ H _ I h) fun u s2 ⟨x, H2, J, rel, q⟩ => ?_) ht
  obtain ⟨a, dx, fs, rfl, ha2, lk, q⟩ := q
  obtain rfl : u = Value.ref a := rel
  refine getmeth_ok J ha2 c mt lk ?_
  refine PySem.W.callWith_K0 J.kIn mt.kp ?_
  refine wpAny_call (codeAny_mono (F X.A X.stack s2 H2 [.ref a] [.ref a] Q (E σ) hr J.env0 (.cons rfl .nil) q) fun res s5 hres => ?_)
  rcases res with e | _ | _ | _ | u
  · exact hx σ _ _ _ e s5 J hres
  all_goals first | exact False.elim hres | exact J.after hres
end
theorem fn_star1X {P : Program} {w : World} {K : PySem.W.Frag} {mg : Str → Option Value} {base : Heap} {k : Nat} {x qual : Str} {st : Stmt} {f : Addr} {fd : FuncData} {N : List Str} {p1 pv : Str} {sp : Sp}
    (F : Fun K x qual st f fd) (sc : FnScope N [p1, pv] (defScope st))
    (b0 : ∀ kV doc pm an cdv ct (a : Value), bindArgs (PySem.W.fnOf x qual (defArgs st) (defBody st) (defScope st) .none kV doc pm an cdv ct) { pos := [a] } = do
      let t ← newTuple []
      pure [(p1, a), (pv, t)])
    (b1 : ∀ kV doc pm an cdv ct (a r : Value) (rs : List Value), bindArgs (PySem.W.fnOf x qual (defArgs st) (defBody st) (defScope st) .none kV doc pm an cdv ct) { pos := a :: r :: rs } = do
      let t ← newTuple (r :: rs)
      pure [(p1, a), (pv, t)])
    (h : ∀ (cdv : Value) (A : Around) (outer : List Env) (s : Shared) (H : Hp) (vs : List V) (Q : VK) (E : XK), Room k (A.deeper (PyProof.Rows.envOfC qual (defScope st) s.heap.objs.size f cdv)) → sp vs H Q E →
      ∃ t, PSs (cxOf (L2.CX P w) P w K mg base N qual (defScope st) f cdv A outer s H E) (defBody st) t ∧ t { nx := fun x H' => Q V.non H', rt := Q } (L2.start N vs) H) :
    FnR P w K mg base (L2.CX P w) (k + 1) f fun vs H Q E => ∃ (a : V) (rest : List V), vs = a :: rest ∧ rest.length ≤ sizeLine ∧ ∀ p, H p = none → sp [a, .ref p] (upd H p (.tup rest)) Q E := by
  obtain ⟨oc, od, kV, doc, pm, an, cdv, ct, osl, rfl, hl, hc⟩ := F.ex
  have z := StX.fn_star (CX := L2.CX P w) (P := P) (w := w) (mg := mg) (base := base) (k := k) (N := N) (ps := [p1]) (pv := pv) (sp := sp) hl hc sc StX.cxUp (StX.bind_star1 (B := fun l => bindArgs (PySem.W.fnOf x qual (defArgs st) (defBody st) (defScope st) .none kV doc pm an cdv ct) { pos := l }) (fun a => b0 kV doc pm an cdv ct a) (fun a r rs => b1 kV doc pm an cdv ct a r rs)) (fun A outer s H vs Q E hr q => h cdv A outer s H vs Q E hr q)
  intro A outer s H us vs Q E hr e0 hv ⟨a, rest, e, l, q⟩
  exact z A outer s H us vs Q E hr e0 hv ⟨[a], rest, e, rfl, l, q⟩
end Mf
/-! x, *y = a list -/
namespace Mf
open PySem PySem.Spec PyProof.Rows L2
def gStar (K : PySem.W.Frag) (t : TGs) : TG := fun v σ H Q => ∃ (a : Addr) (z : V) (zs : List V), v = .ref a ∧ SqL K H a (z :: zs) ∧ zs.length + 1 ≤ 16384 ∧ ∀ D, H D = none → t [z, .ref D] σ (upd H D (.lst zs)) Q
/-- all but what the namespace is -/
noncomputable def newsOf (B h : Heap) (L : Addr) : List (Addr × Obj) := (List.range h.objs.size).filterMap fun b => if b = L then none else match B.get? b with
  | some _ => none
  | none => (h.get? b).map fun o => (b, o)
theorem get_lt {h : Heap} {b : Addr} {o : Obj} (e : h.get? b = some o) : b < h.objs.size := by
  by_cases l : b < h.objs.size
  · exact l
  · unfold Heap.get? at e
    rw [Array.getElem?_eq_none (Nat.le_of_not_lt l)] at e
    cases e
theorem newsOf_in {B h : Heap} {L : Addr} {p : Addr × Obj} (m : p ∈ newsOf B h L) : h.get? p.1 = some p.2 ∧ p.1 ≠ L ∧ B.get? p.1 = none := by
  obtain ⟨b, _, e⟩ := List.mem_filterMap.mp m
  by_cases bl : b = L
  · rw [if_pos bl] at e; cases e
  · rw [if_neg bl] at e
    cases hb : B.get? b with
    | some o => rw [hb] at e; cases e
    | none =>
      rw [hb] at e
      obtain ⟨o, ho, rfl⟩ := Option.map_eq_some_iff.mp e
      exact ⟨ho, bl, hb⟩
theorem newsOf_of {B h : Heap} {L b : Addr} {o : Obj} (e : h.get? b = some o) (n : b ≠ L) (hb : B.get? b = none) : (b, o) ∈ newsOf B h L := by
  refine List.mem_filterMap.mpr ⟨b, List.mem_range.mpr (get_lt e), ?_⟩
  rw [if_neg n, hb, e]
  rfl
theorem pg_star {X : Cx} {es es2 : List Expr} {k : Nat} {pos : Pos} {t : TGs} (hc : X.calm = true) (hp : PGs X es2 t) (he : (assignEach es X.env).map (·.2) = (assignEach es2 X.env).map (·.2) := by rfl) (hl : (assignEach es X.env).length = 2 := by rfl) (hf : (assignEach es X.env).findIdx? (·.1) = some 1 := by rfl) : PG X (.Tuple es k pos) (gStar X.K t) := by
  constructor
  intro pins s σ H v u Q I rv h
  obtain ⟨a, z, zs, rfl, hq, few, kk⟩ := h
  obtain rfl : u = Value.ref a := rv
  obtain ⟨its, rvs, pl, hz⟩ := I.list hq
  obtain ⟨mm, fr⟩ := I.fr
  cases its with
  | nil => cases rvs
  | cons w ws =>
  have lw : ws.length = zs.length := by have := rvs.length; simp at this; omega
  have r1 : RelV z w := by cases rvs; assumption
  have r2 : Vals zs ws := by cases rvs; assumption
  refine PySem.W.kun_assignL (news := newsOf X.base s.heap X.env.locals) (mids := ws) (lasts := []) (first := [w]) fr (fun p hp => newsOf_in hp) pl.isList (I.ok.hd hc) hl hf (by decide) (by simp) (by simp; omega) (by simp) (by simp) (by simp) fun D h' tk fr' nw' lt => ?_
  have nD := nw' _ List.mem_cons_self
  have kept : ∀ (b : Addr) (o : Obj), b ≠ X.env.locals → s.heap.get? b = some o → h'.get? b = some o := fun b o nb e => by
    cases hb : X.base.get? b with
    | some o2 =>
      have e2 := fr.keep b o2 hb
      rw [e] at e2
      cases e2
      exact fr'.keep b o hb
    | none => exact (nw' _ (List.mem_cons_of_mem _ (newsOf_of e nb hb))).1
  have sD : s.heap.get? D = none := by
    cases e : s.heap.get? D with
    | none => rfl
    | some o =>
      have := lt _ (newsOf_of e nD.2.1 nD.2.2)
      exact absurd this (Nat.lt_irrefl _)
  have hD : H D = none := I.hok.gone sD
  have nl : ∀ {b : Addr} {o : HO}, H b = some o → b ≠ X.env.locals := fun {b o} e z => by
    have := I.free
    rw [← z, e] at this; cases this
  have I1 : Inv X pins σ (upd H D (.lst zs)) { heap := h', gens := s.gens, drawn := s.drawn, toks := tk, os := s.os } := by
    refine I.step (ch := []) (fun b hb => nomatch hb) (fun b o n1 _ _ e _ => kept b o n1 e) (fun b o n1 _ _ e _ => ⟨o.slots, kept b o n1 e⟩) (fun b o _ e hb => ?_) (fun b o _ e => ?_) (fun b xs e => ?_) (fun b o u e => ?_) (fun b ps e => ?_) (fun m ns => ?_) (fun b o e => ?_) I.bare
    · rw [upd_ne (fun z => by rw [z, sD] at e; cases e)]; exact hb
    · by_cases n1 : b = X.env.locals
      · obtain ⟨o2, _, _, h2, _⟩ := fr'.ns
        exact ⟨o2, by rw [n1]; exact h2⟩
      · exact ⟨o, kept b o n1 e⟩
    · rw [upd_ne (fun z => by rw [z, hD] at e; cases e)]; exact e
    · rw [upd_ne (fun z => by rw [z, hD] at e; cases e)]; exact e
    · exact ⟨#[], by rw [upd_ne (fun z => by rw [z, hD] at e; cases e), Array.append_empty]; exact e⟩
    · obtain ⟨o1, es1, ep1, h1, d1, sk1, f1⟩ := ns
      obtain ⟨o2, es2, ep2, h2, d2, sk2, f2⟩ := fr.ns
      rw [h1] at h2
      cases h2
      rw [d1] at d2
      cases d2
      have em : m = mm := funext fun n => (f1 n).symm.trans (f2 n)
      rw [em]; exact fr'.ns
    · by_cases eD : b = D
      · subst eD
        rw [upd_same] at e
        cases e
        refine ⟨by rw [List.length_cons] at hz; omega, ws, 0, r2, ?_⟩
        exact nD.1
      · rw [upd_ne eD] at e
        refine (I.hok b o e).stay (fun c u hc hcu => ?_) (fun c hc => ?_) fun c xs hc => ?_
        · rcases hc with rfl | hc
          · exact kept c u (nl e) hcu
          · exact kept c u (nl hc) hcu
        · rw [upd_ne (fun z => by rw [z, hD] at hc; cases hc)]; exact hc
        · rw [upd_ne (fun z => by rw [z, hD] at hc; cases hc)]; exact hc
  rw [he]
  exact hp.run pins _ σ _ [z, .ref D] [w, .ref D] Q I1 (.cons r1 (.cons rfl .nil)) (kk D hD)
end Mf
namespace Mf
open PySem L2
theorem tyx_tup {H : Hp} {t : Addr} {xs : List V} (h : SqT K H t xs) : TyX K H (.ref t) (.type "tuple") := by
  rcases h with (h | ⟨o, h⟩) | ⟨o, its, n, h, c, _⟩
  · exact .base (.tup h)
  · exact .fTuple h
  · exact .kTuple h c
theorem paired_same {α β : Type} {R S : α → β → Prop} {xs : List α} {ys : List β} (r : Paired R xs ys) (h : ∀ a b, R a b → S a b) : Paired S xs ys := by
  induction r with
  | nil => exact .nil
  | cons a _ ih => exact .cons (h _ _ a) ih
theorem paired_snoc {α β : Type} {R : α → β → Prop} {xs : List α} {ys : List β} (r : Paired R xs ys) {x : α} {y : β} (h : R x y) : Paired R (xs ++ [x]) (ys ++ [y]) := by
  induction r with
  | nil => exact .cons h .nil
  | cons a _ ih => exact .cons a ih
theorem paired_get {α β : Type} {R : α → β → Prop} {xs : List α} {ys : List β} (r : Paired R xs ys) : ∀ {i : Nat} {x : α}, xs[i]? = some x → ∃ y, ys[i]? = some y ∧ R x y := by
  induction r with
  | nil => intro i y h; simp at h
  | cons a _ ih =>
    intro i y h
    cases i with
    | zero => cases h; exact ⟨_, rfl, a⟩
    | succ i => exact ih h
theorem paired_mem {α β : Type} {S : α → β → Prop} : ∀ {xs : List α} {ys : List β}, Paired S xs ys → Paired (fun u y => S u y ∧ u ∈ xs) xs ys := by
  intro xs ys r
  induction r with
  | nil => exact .nil
  | cons a _ ih => exact .cons ⟨a, List.mem_cons_self⟩ (paired_same ih fun _ _ z => ⟨z.1, List.mem_cons_of_mem _ z.2⟩)
def numB (n : Int) : Bool := decide (n.natAbs < 10 ^ 60)
theorem numB_of {n : Int} (h : n.natAbs < 10 ^ 60) : numB n = true := decide_eq_true h
theorem p59 : ∃ M : Nat, (10 ^ 60 : Nat) = 10 * M ∧ (10 : Int) ^ (59 : Int).toNat = M ∧ (10 : Int) ^ (60 : Int).toNat = 10 * (M : Int) ∧ 1000000 < M ∧ (2 * M).log2 < 200 ∧ 2 * M < 2 ^ 200 := ⟨10 ^ 59, by decide +kernel, by decide +kernel, by decide +kernel, by decide +kernel, by decide +kernel, by decide +kernel⟩
theorem num3 {v : Int} (h0 : 0 ≤ v) (h : v < 3) : ∃ n : Int, atI [V.int 0, V.int 1, V.int 7] v = some (.int n) ∧ numB n = true := by
  have c : v = 0 ∨ v = 1 ∨ v = 2 := by omega
  rcases c with rfl | rfl | rfl
  · exact ⟨0, rfl, by decide +kernel⟩
  · exact ⟨1, rfl, by decide +kernel⟩
  · exact ⟨7, rfl, by decide +kernel⟩
abbrev psD' : List Str := ["_law_source_here", "_law_many"]
def decS (n : Int) : Str := Str.ofString (toString n)
theorem decS_len {n : Int} {k : Nat} (hk : 0 < k) (h : n.natAbs < 10 ^ k) : (decS n).length ≤ k + 1 := by
  have z := PySem.int_text_length_le10 hk h
  unfold decS
  rw [PySem.ofString_length]
  exact z
theorem joinT_len {y : Str} {k : Nat} {ps : List Str} (h : ∀ p ∈ ps, p.length ≤ k) : (Txt.join y ps).length ≤ ps.length * (k + y.length) := by
  rw [len_of, tl_joinT]
  have q := joinL_len (S := TL.tl y) (k := k) (ps := ps.map TL.tl) fun p hp => by
    obtain ⟨z, hz, rfl⟩ := List.mem_map.mp hp
    rw [← len_of]; exact h z hz
  rw [List.length_map, ← len_of] at q
  exact q
theorem log2_of {n : Int} {k : Nat} (h : n.natAbs < 2 ^ k) (hk : k ≤ 1920) (h0 : 0 < k) : n.natAbs.log2 < 1920 := by
  by_cases e : n.natAbs = 0
  · rw [e]; decide
  · exact Nat.lt_of_lt_of_le ((Nat.log2_lt e).mpr h) hk
def digs (z : Str) : Str := Txt.removeprefix z "-"
def digB (z : Str) : Bool := z.cps.toList.all fun c => decide (48 ≤ c) && decide (c ≤ 57)
def numT (z : Str) : Bool := decide (1 ≤ (digs z).length) && decide ((digs z).length ≤ 60) && digB (digs z) && (!decide ((digs z).cps[0]? = some 48) || decide (z = "0"))
def spIsNumeral : Sp := fun vs H Q _ => ∃ z : Str, vs = [.str z] ∧ z.length ≤ 1000000 ∧ ∀ H', Same H H' → Q (.bl (numT z)) H'
theorem le_of_sign0 {c : Nat} (q : (!decide ([c] < [48])) = true) : 48 ≤ c := by
  rw [sign_le] at q; exact of_decide_eq_true q
theorem le_sign0 {c : Nat} (q : 48 ≤ c) : (!decide ([c] < [48])) = true := by
  rw [sign_le]; exact decide_eq_true q
theorem rem_len (a b : Str) : (Txt.removeprefix a b).length ≤ a.length := by
  unfold Txt.removeprefix Txt.affix
  split
  · rename_i lo hi e
    split
    · exact Nat.le_refl _
    · unfold Builtin.Str.strSub
      show (a.cps.extract _ _).size ≤ a.cps.size
      rw [Array.size_extract]
      omega
  · exact Nat.le_refl _
theorem numL_head : ∀ (n : Nat), 1 ≤ n → ∃ d r, TL.numL n = d :: r ∧ d ≠ 48 := by
  intro n
  induction n using Nat.strongRecOn with
  | ind n ih =>
    intro h
    by_cases l : n < 10
    · exact ⟨48 + n, [], TL.numL_lt l, by omega⟩
    · obtain ⟨d, r, e, nz⟩ := ih (n / 10) (by omega) (by omega)
      exact ⟨d, r ++ [48 + n % 10], by rw [TL.numL_step (by omega), e]; rfl, nz⟩
theorem tl_nat (n : Nat) : TL.tl (decS (n : Nat)) = TL.numL n := TL.tl_num n
theorem tl_neg (m : Nat) : TL.tl (decS (Int.negSucc m)) = 45 :: TL.numL (m + 1) := by
  have e : decS (Int.negSucc m) = Str.ofString ("-" ++ toString ((m + 1 : Nat))) := rfl
  have e2 : TL.tl (Str.ofString (toString ((m + 1 : Nat) : Int))) = TL.numL (m + 1) := TL.tl_num (m + 1)
  rw [e, TL.tl_ofString, String.toList_append, List.map_append]
  rw [TL.tl_ofString] at e2
  have e3 : (toString ((m + 1 : Nat) : Int)) = toString (m + 1) := rfl
  rw [e3] at e2
  rw [e2]
  rfl
theorem sub_minus (z : Str) : Builtin.Str.subAt z ("-" : Str) 0 = decide ((TL.tl z).head? = some 45) := by
  have e2 : ("-" : Str).cps.toList = [45] := by decide +kernel
  have e3 : ("-" : Str).length = 1 := by decide +kernel
  have tk : (z.cps.extract 0 (0 + ("-" : Str).length)).toList = (TL.tl z).take 1 := by
    rw [e3, Array.toList_extract]
    simp [List.extract]
  unfold Builtin.Str.subAt
  by_cases h : (TL.tl z).head? = some 45
  · rw [decide_eq_true h]
    refine beq_iff_eq.mpr (Array.toList_inj.mp ?_)
    rw [tk, e2]
    cases e : TL.tl z with
    | nil => rw [e] at h; cases h
    | cons a r => rw [e] at h; cases h; rfl
  · rw [decide_eq_false h]
    refine beq_eq_false_iff_ne.mpr fun e => h ?_
    have e1 : (z.cps.extract 0 (0 + ("-" : Str).length)).toList = ("-" : Str).cps.toList := by rw [e]
    rw [tk, e2] at e1
    cases e4 : TL.tl z with
    | nil => rw [e4] at e1; cases e1
    | cons a r => rw [e4] at e1; cases e1; rfl
theorem rem_no {z : Str} (h : (TL.tl z).head? ≠ some 45) : digs z = z := by
  unfold digs Txt.removeprefix
  rw [sub_minus, decide_eq_false h]
  rfl
theorem rem_yes {z : Str} {r : List Nat} (h : TL.tl z = 45 :: r) : TL.tl (digs z) = r := by
  unfold digs Txt.removeprefix
  rw [sub_minus, decide_eq_true (by rw [h]; rfl)]
  have e3 : ("-" : Str).length = 1 := by decide +kernel
  have zl : z.length = r.length + 1 := by rw [TL.len_tl, h]; rfl
  show TL.tl (if (z.length - ("-" : Str).length == z.length) = true then z else Builtin.Str.strSub z ("-" : Str).length z.length) = r
  rw [e3, if_neg (by simp; omega), TL.tl_strSub, h]
  simp [zl]
theorem allD (z : Str) (h : NumText.AllDigits (TL.tl z)) : digB z = true := List.all_eq_true.mpr fun c hc => by
  obtain ⟨a, b⟩ := h c hc
  rw [decide_eq_true a, decide_eq_true b]; rfl
theorem head_get {z : Str} {d : Nat} {r : List Nat} (h : TL.tl z = d :: r) : z.cps[0]? = some d := by
  rw [← Array.getElem?_toList]
  show (TL.tl z)[0]? = _
  rw [h]; rfl
theorem decS_zero : decS 0 = "0" := rfl
theorem numT_nat {m : Nat} (h : m < 10 ^ 60) : numT (decS (m : Nat)) = true := by
  have e := tl_nat m
  have hd : (TL.tl (decS (m : Nat))).head? ≠ some 45 := by
    rw [e]
    intro q
    cases hL : TL.numL m with
    | nil => exact TL.numL_ne m hL
    | cons a r =>
      rw [hL] at q
      cases q
      have := TL.numL_digits m 45 (by rw [hL]; exact List.mem_cons_self)
      omega
  have l1 : 1 ≤ (decS (m : Nat)).length := by
    rw [TL.len_tl, e]
    cases hL : TL.numL m with
    | nil => exact absurd hL (TL.numL_ne m)
    | cons a r => simp
  have l2 : (decS (m : Nat)).length ≤ 60 := by
    rw [TL.len_tl, e]
    exact TL.numL_len (by decide) h
  have dg := allD (decS (m : Nat)) (by rw [e]; exact TL.numL_digits m)
  have zr : m = 0 → decS (m : Nat) = "0" := fun z => by rw [z]; rfl
  have nz : m ≠ 0 → (decS (m : Nat)).cps[0]? ≠ some 48 := fun z => by
    obtain ⟨d, r, er, nz⟩ := numL_head m (by omega)
    rw [head_get (e.trans er)]
    exact fun q => nz (Option.some.inj q)
  generalize decS (m : Nat) = x at *
  unfold numT
  rw [rem_no hd, decide_eq_true l1, decide_eq_true l2, dg, Bool.true_and, Bool.true_and]
  by_cases m0 : m = 0
  · rw [decide_eq_true (zr m0), Bool.or_true]; rfl
  · rw [decide_eq_false (nz m0)]; rfl
/-- the decimal text of a number is a numeral -/
theorem numT_dec {n : Int} (h : n.natAbs < 10 ^ 60) : numT (decS n) = true := by
  cases n with
  | ofNat m => exact numT_nat h
  | negSucc m =>
    unfold numT
    have e := tl_neg m
    have ed := rem_yes e
    have l1 : 1 ≤ (digs (decS (Int.negSucc m))).length := by
      rw [TL.len_tl, ed]
      cases hL : TL.numL (m + 1) with
      | nil => exact absurd hL (TL.numL_ne _)
      | cons a r => simp
    have l2 : (digs (decS (Int.negSucc m))).length ≤ 60 := by
      rw [TL.len_tl, ed]
      exact TL.numL_len (by decide) h
    rw [decide_eq_true l1, decide_eq_true l2, allD _ (by rw [ed]; exact TL.numL_digits _), Bool.true_and, Bool.true_and]
    obtain ⟨d, r, er, nz⟩ := numL_head (m + 1) (by omega)
    rw [head_get (ed.trans er), decide_eq_false (fun q => nz (Option.some.inj q))]; rfl
theorem int_dec {n : Int} (h : n.natAbs < 10 ^ 60) : PySem.intText? (decS n) = some n := by
  cases n with
  | ofNat m => exact TL.int_num (Nat.le_trans (TL.numL_len (k := 60) (by decide) h) (by decide))
  | negSucc m =>
    have e := tl_neg m
    have z := intText_neg (x := decS (Int.negSucc m)) e (TL.numL_digits _) (TL.numL_ne _) (by
      rw [TL.len_tl, e, List.length_cons]
      have := TL.numL_len (n := m + 1) (k := 60) (by decide) h
      omega)
    rw [TL.numL_val] at z
    exact z
/-- a text with another sign ahead is none -/
theorem numT_no {z : Str} {c : Nat} {r : List Nat} (h : TL.tl z = c :: r) (n1 : c ≠ 45) (n2 : ¬ (48 ≤ c ∧ c ≤ 57)) : numT z = false := by
  have hd : (TL.tl z).head? ≠ some 45 := by rw [h]; exact fun q => n1 (Option.some.inj q)
  unfold numT
  rw [rem_no hd]
  have b : digB z = false := by
    unfold digB
    show (TL.tl z).all _ = false
    rw [h, List.all_cons]
    by_cases a : 48 ≤ c
    · rw [decide_eq_false (show ¬ c ≤ 57 from fun q => n2 ⟨a, q⟩)]; simp
    · rw [decide_eq_false a]; rfl
  rw [b, Bool.and_false, Bool.false_and]
theorem name_head {z : Str} (h : IsName z) : ∃ c r, TL.tl z = c :: r ∧ 97 ≤ c := by
  obtain ⟨h1, _, h3⟩ := h
  cases e : TL.tl z with
  | nil =>
    have : z.cps.toList.length = 0 := by rw [show z.cps.toList = [] from e]; rfl
    rw [Array.length_toList] at this
    omega
  | cons c r => exact ⟨c, r, rfl, (h3 c (by rw [show z.cps.toList = c :: r from e]; exact List.mem_cons_self)).1⟩
theorem minus_tl : TL.tl ("-" : Str) = [45] := by decide +kernel
theorem dig_all {z : Str} (h : digB z = true) : NumText.AllDigits (TL.tl z) := fun c hc => by
  have q := List.all_eq_true.mp h c hc
  obtain ⟨a, b⟩ := Bool.and_eq_true_iff.mp q
  exact ⟨of_decide_eq_true a, of_decide_eq_true b⟩
theorem numL_canon : ∀ (n : Nat) (cs : List Nat), cs.length = n → NumText.AllDigits cs → cs ≠ [] → (cs.head? ≠ some 48 ∨ cs = [48]) → TL.numL (NumText.digitsVal cs) = cs := by
  intro n
  induction n with
  | zero => intro cs l _ ne _; exact absurd (List.length_eq_zero_iff.mp l) ne
  | succ n ih =>
    intro cs l dg ne hd
    obtain ⟨pre, d, rfl⟩ : ∃ pre d, cs = pre ++ [d] := ⟨cs.dropLast, cs.getLast ne, (List.dropLast_concat_getLast ne).symm⟩
    have hd9 := dg d (List.mem_append_right _ (List.mem_singleton.mpr rfl))
    rw [NumText.digitsVal_snoc]
    cases pre with
    | nil =>
      show TL.numL (0 * 10 + (d - 48)) = [d]
      rw [TL.numL_lt (by omega)]
      congr 1
      omega
    | cons c r =>
      have hc : c ≠ 48 := fun e => by
        rcases hd with h | h
        · exact h (by rw [e]; rfl)
        · have := congrArg List.length h
          simp at this
      have dg' : NumText.AllDigits (c :: r) := fun x hx => dg x (List.mem_append_left _ hx)
      have c9 := dg' c List.mem_cons_self
      have pos := NumText.digitsVal_pos (c := c) (cs := r) (by omega)
      have il := ih (c :: r) (by rw [List.length_append] at l; simpa using l) dg' (by simp) (.inl (by simpa using hc))
      rw [TL.numL_step (by omega)]
      have e1 : (NumText.digitsVal (c :: r) * 10 + (d - 48)) / 10 = NumText.digitsVal (c :: r) := by omega
      have e2 : 48 + (NumText.digitsVal (c :: r) * 10 + (d - 48)) % 10 = d := by omega
      rw [e1, e2, il]
def valZ (z : Str) : Int := (PySem.intText? z).getD 0
/-- a decimal text without a sign -/
structure Good (z : Str) : Prop where
  l1 : 1 ≤ z.length
  l2 : z.length ≤ 60
  dg : digB z = true
  hd : (TL.tl z).head? ≠ some 48 ∨ z = "0"
theorem ne_tl {z : Str} (h : 1 ≤ z.length) : TL.tl z ≠ [] := fun e => by rw [TL.len_tl, e] at h; simp at h
theorem int_dig {z : Str} (l1 : 1 ≤ z.length) (l2 : z.length ≤ 60) (dg : digB z = true) : PySem.intText? z = some ((NumText.digitsVal (TL.tl z) : Nat) : Int) := intText_digits (dig_all dg) (ne_tl l1) (by omega)
theorem val_dig {z : Str} (l1 : 1 ≤ z.length) (l2 : z.length ≤ 60) (dg : digB z = true) : valZ z = ((NumText.digitsVal (TL.tl z) : Nat) : Int) := by
  unfold valZ
  rw [int_dig l1 l2 dg]; rfl
theorem zero_tl : TL.tl ("0" : Str) = [48] := by decide +kernel
theorem Good.dec {z : Str} (g : Good z) : decS (valZ z) = z := by
  rw [val_dig g.l1 g.l2 g.dg]
  refine TL.ext_tl ?_
  rw [tl_nat]
  refine numL_canon _ _ rfl (dig_all g.dg) (ne_tl g.l1) ?_
  rcases g.hd with h | h
  · exact .inl h
  · exact .inr (by rw [h]; exact zero_tl)
theorem good_of {z : Str} (l1 : 1 ≤ z.length) (l2 : z.length ≤ 60) (dg : digB z = true) (e : decS (valZ z) = z) : Good z := by
  refine ⟨l1, l2, dg, ?_⟩
  rw [val_dig l1 l2 dg] at e
  generalize NumText.digitsVal (TL.tl z) = m at e
  by_cases m0 : m = 0
  · exact .inr (by rw [← e, m0]; rfl)
  · obtain ⟨d, r, er, nz⟩ := numL_head m (by omega)
    refine .inl ?_
    rw [← e, tl_nat, er]
    exact fun q => nz (Option.some.inj q)
theorem head_cps {z : Str} : z.cps[0]? = (TL.tl z).head? := by
  rw [← Array.getElem?_toList]
  show (TL.tl z)[0]? = _
  cases TL.tl z <;> rfl
theorem numT_plain {z : Str} (h : (TL.tl z).head? ≠ some 45) : numT z = true ↔ Good z := by
  unfold numT
  rw [rem_no h, head_cps]
  constructor
  · intro q
    obtain ⟨q, q4⟩ := Bool.and_eq_true_iff.mp q
    obtain ⟨q, q3⟩ := Bool.and_eq_true_iff.mp q
    obtain ⟨q1, q2⟩ := Bool.and_eq_true_iff.mp q
    refine ⟨of_decide_eq_true q1, of_decide_eq_true q2, q3, ?_⟩
    rcases Bool.or_eq_true_iff.mp q4 with h | h
    · exact .inl (by simpa using h)
    · exact .inr (of_decide_eq_true h)
  · rintro ⟨l1, l2, dg, hd⟩
    rw [decide_eq_true l1, decide_eq_true l2, dg, Bool.true_and, Bool.true_and]
    rcases hd with h | h
    · rw [decide_eq_false h]; rfl
    · rw [decide_eq_true h, Bool.or_true]; rfl
theorem numT_minus {w z : Str} (h : TL.tl w = 45 :: TL.tl z) : numT w = true ↔ Good z ∧ z ≠ "0" := by
  have ed : digs w = z := TL.ext_tl (rem_yes h)
  have w0 : w ≠ "0" := fun e => by rw [e, zero_tl] at h; cases h
  unfold numT
  rw [ed, head_cps, decide_eq_false w0, Bool.or_false]
  constructor
  · intro q
    obtain ⟨q, q4⟩ := Bool.and_eq_true_iff.mp q
    obtain ⟨q, q3⟩ := Bool.and_eq_true_iff.mp q
    obtain ⟨q1, q2⟩ := Bool.and_eq_true_iff.mp q
    have h4 : (TL.tl z).head? ≠ some 48 := by simpa using q4
    exact ⟨⟨of_decide_eq_true q1, of_decide_eq_true q2, q3, .inl h4⟩, fun e => h4 (by rw [e, zero_tl]; rfl)⟩
  · rintro ⟨⟨l1, l2, dg, hd⟩, n0⟩
    rw [decide_eq_true l1, decide_eq_true l2, dg, Bool.true_and, Bool.true_and, decide_eq_false (hd.resolve_right n0)]; rfl
abbrev sgn (w : Str) : Str := cutS w none (some 1)
theorem sgn_tl (w : Str) : TL.tl (sgn w) = (TL.tl w).take 1 := by
  have h1 : HT.sIx w.length 0 none = 0 := rfl
  have h2 : HT.sIx w.length w.length (some ((1 : Nat) : Int)) = min 1 w.length := HT.sIx_nat ..
  have e : sgn w = cutS w none (some ((1 : Nat) : Int)) := rfl
  rw [e]
  unfold cutS
  rw [h1, h2]
  show ((TL.tl w).drop 0).take (min 1 w.length - 0) = _
  rw [List.drop_zero, Nat.sub_zero, TL.len_tl]
  cases TL.tl w with
  | nil => rfl
  | cons a r => simp
theorem sgn_iff {w s : Str} {c : Nat} (hs : TL.tl s = [c]) : sgn w = s ↔ (TL.tl w).head? = some c := by
  have e := sgn_tl w
  constructor
  · intro q
    rw [q, hs] at e
    cases h : TL.tl w with
    | nil => rw [h] at e; cases e
    | cons a r => rw [h] at e; cases e; rfl
  · intro q
    refine TL.ext_tl ?_
    rw [e, hs]
    cases h : TL.tl w with
    | nil => rw [h] at q; cases q
    | cons a r => rw [h] at q; cases q; rfl
theorem drop_tl {w : Str} {c : Nat} {r : List Nat} (h : TL.tl w = c :: r) : TL.tl (cutS w (some 1) none) = r := by
  have l : 1 ≤ w.length := by rw [TL.len_tl, h]; simp
  have z := cut_tl w 1 l
  rw [h] at z
  exact z
theorem m0_tl : TL.tl ("-0" : Str) = [45, 48] := by decide +kernel
theorem numT_int {z : Str} (h : numT z = true) : PySem.intText? z = some (valZ z) ∧ z.length ≤ 61 := by
  have some_of : ∀ {n : Int}, PySem.intText? z = some n → PySem.intText? z = some (valZ z) := fun {n} e => by
    unfold valZ
    rw [e]; rfl
  by_cases h45 : (TL.tl z).head? = some 45
  · obtain ⟨r, er⟩ : ∃ r, TL.tl z = 45 :: r := by
      cases q : TL.tl z with
      | nil => rw [q] at h45; cases h45
      | cons a b => rw [q] at h45; cases h45; exact ⟨b, rfl⟩
    have e1 := drop_tl er
    obtain ⟨g, _⟩ := (numT_minus (z := cutS z (some 1) none) (by rw [e1]; exact er)).mp h
    have dgs := dig_all g.dg
    rw [e1] at dgs
    have gl2 := g.l2
    rw [TL.len_tl, e1] at gl2
    have ne := ne_tl g.l1
    rw [e1] at ne
    have lz : z.length = r.length + 1 := by rw [TL.len_tl, er]; rfl
    exact ⟨some_of (intText_neg (cs := r) er dgs ne (by omega)), by omega⟩
  · have g := (numT_plain h45).mp h
    have := g.l2
    exact ⟨some_of (int_dig g.l1 g.l2 g.dg), by omega⟩
theorem le_sum : ∀ {ps : List Str} {y : Str}, y ∈ ps → y.length ≤ (ps.map (·.length)).sum
  | a :: r, y, h => by
    show _ ≤ a.length + (r.map (·.length)).sum
    rcases List.mem_cons.mp h with rfl | h
    · omega
    · have := le_sum h; omega
theorem paired_ix {α β : Type} {S : α → β → Prop} : ∀ {xs : List α} {ys : List β}, xs.length = ys.length → (∀ (i : Nat) (x : α) (y : β), xs[i]? = some x → ys[i]? = some y → S x y) → Paired S xs ys
  | [], [], _, _ => .nil
  | [], _ :: _, e, _ => by cases e
  | _ :: _, [], e, _ => by cases e
  | x :: xs, y :: ys, e, h => .cons (h 0 x y rfl rfl) (paired_ix (Nat.succ.inj e) fun i a b ha hb => h (i + 1) a b ha hb)
theorem sp_ne : TL.tl (" " : Str) ≠ [] := by decide +kernel
theorem nl_ne : TL.tl ("\n" : Str) ≠ [] := by decide +kernel
/-- how many spaces stand in a text -/
def spc (z : Str) : Nat := (TL.tl z).count 32
theorem spl_cnt (S : List Nat) : ∀ (l : List Nat) (k : Nat) (acc : List Nat), ((TL.spl S k acc l).map fun p => p.count 32).sum ≤ acc.count 32 + l.count 32
  | [], k, acc => by
    rw [TL.spl_nil]
    simp
  | c :: r, 0, acc => by
    show ((if TL.pre S (c :: r) = true then acc :: TL.spl S (S.length - 1) [] r else TL.spl S 0 (acc ++ [c]) r).map fun p => p.count 32).sum ≤ _
    by_cases h : TL.pre S (c :: r) = true
    · rw [if_pos h]
      have a := spl_cnt S r (S.length - 1) []
      rw [List.map_cons, List.sum_cons, List.count_cons]
      rw [List.count_nil] at a
      omega
    · rw [if_neg h]
      have a := spl_cnt S r 0 (acc ++ [c])
      rw [List.count_append] at a
      rw [List.count_cons]
      rw [List.count_singleton] at a
      omega
  | c :: r, k + 1, acc => by
    have a := spl_cnt S r k acc
    rw [List.count_cons]
    exact Nat.le_trans a (by omega)
theorem spl_one : ∀ (l acc : List Nat), (TL.spl [32] 0 acc l).length = l.count 32 + 1
  | [], acc => by rw [TL.spl_nil]; simp
  | c :: r, acc => by
    show (if TL.pre [32] (c :: r) = true then acc :: TL.spl [32] 0 [] r else TL.spl [32] 0 (acc ++ [c]) r).length = _
    by_cases h : c = 32
    · subst h
      rw [if_pos (by rfl), List.length_cons, spl_one r [], List.count_cons_self]
    · rw [if_neg (by unfold TL.pre; simp [h]), spl_one r (acc ++ [c]), List.count_cons_of_ne h]
theorem tl_spc : TL.tl (" " : Str) = [32] := by decide +kernel
theorem split_spc (l : Str) : (Txt.split l (" " : Str)).length ≤ spc l + 1 := by
  have e := TL.split_spl l (" " : Str) sp_ne (TL.kind_ok (by decide +kernel))
  rw [tl_spc] at e
  have q := spl_one (TL.tl l) []
  rw [← e, List.length_map] at q
  exact Nat.le_of_eq q
theorem part_spc (z : Str) : ((Txt.split z ("\n" : Str)).map spc).sum ≤ spc z := by
  have e := TL.split_spl z ("\n" : Str) nl_ne (TL.kind_ok (by decide +kernel))
  have a := spl_cnt (TL.tl ("\n" : Str)) (TL.tl z) 0 []
  rw [← e, List.map_map, List.count_nil, Nat.zero_add] at a
  exact a
theorem cut_spc (z : Str) (a b : Option Int) : spc (cutS z a b) ≤ spc z := by
  unfold spc cutS
  show (List.take _ (List.drop _ (TL.tl z))).count 32 ≤ _
  exact ((List.take_sublist _ _).trans (List.drop_sublist _ _)).count_le 32
theorem app_spc (x y : Str) : spc (x ++ y) = spc x + spc y := by
  unfold spc
  rw [TL.tl_append, List.count_append]
theorem join_spc (y : Str) : ∀ ps : List Str, spc (Txt.join y ps) ≤ (ps.map spc).sum + ps.length * spc y
  | [] => by unfold spc; rw [tl_joinT]; exact Nat.zero_le _
  | [p] => by
    unfold spc
    rw [tl_joinT]
    show (TL.tl p).count 32 ≤ ((TL.tl p).count 32 + 0) + _
    omega
  | p :: q :: r => by
    have ih := join_spc y (q :: r)
    unfold spc at ih ⊢
    rw [tl_joinT] at ih ⊢
    show (TL.tl p ++ (TL.tl y ++ TL.joinL (TL.tl y) ((q :: r).map TL.tl))).count 32 ≤ ((TL.tl p).count 32 + ((q :: r).map fun z => (TL.tl z).count 32).sum) + ((q :: r).length + 1) * (TL.tl y).count 32
    rw [List.count_append, List.count_append, Nat.add_mul]
    omega
theorem le_spc : ∀ {ps : List Str} {y : Str}, y ∈ ps → spc y ≤ (ps.map spc).sum
  | p :: ps, y, h => by
    rw [List.map_cons, List.sum_cons]
    rcases List.mem_cons.mp h with rfl | h
    · omega
    · have := le_spc h; omega
theorem dec_free {n : Int} {s : Nat} (h : s < 45 ∨ 57 < s) : ¬ s ∈ TL.tl (decS n) := by
  cases n with
  | ofNat m =>
    have e := tl_nat m
    intro q
    have q : s ∈ TL.tl (decS (m : Nat)) := q
    rw [e] at q
    exact TL.numL_free (by omega) q
  | negSucc m =>
    rw [tl_neg m, List.mem_cons]
    rintro (q | q)
    · omega
    · exact TL.numL_free (by omega) q
theorem sp_tl : TL.tl (" " : Str) = 32 :: [] := by decide +kernel
theorem free_spc {z : Str} (h : ¬ 32 ∈ TL.tl z) : spc z = 0 := List.count_eq_zero.mpr h
theorem sum_zero : ∀ {ps : List Str}, (∀ p ∈ ps, spc p = 0) → (ps.map spc).sum = 0
  | [], _ => rfl
  | p :: ps, h => by
    rw [List.map_cons, List.sum_cons, h p List.mem_cons_self, sum_zero fun q hq => h q (List.mem_cons_of_mem _ hq)]
theorem seq_at {i n : Nat} (h : i < n) : seqIndex? (i : Nat) n = some i := by
  unfold seqIndex?
  rw [if_neg (by omega : ¬ ((i : Nat) : Int) < 0)]
  simp [h]
theorem sum_era : ∀ (ps : List Str) (i : Nat) (f : Str → Nat) {y : Str}, ps[i]? = some y → ((ps.eraseIdx i).map f).sum + f y = (ps.map f).sum
  | [], _, _, _, h => by cases h
  | p :: ps, 0, f, y, h => by
    cases h
    rw [List.eraseIdx_cons_zero, List.map_cons, List.sum_cons]; omega
  | p :: ps, i + 1, f, y, h => by
    have := sum_era ps i f (y := y) h
    rw [List.eraseIdx_cons_succ, List.map_cons, List.map_cons, List.sum_cons, List.sum_cons]; omega
theorem era_map {α β : Type} (f : α → β) : ∀ (ps : List α) (k : Nat), (ps.map f).eraseIdx k = (ps.eraseIdx k).map f
  | [], _ => rfl
  | _ :: _, 0 => rfl
  | p :: ps, k + 1 => by
    rw [List.map_cons, List.eraseIdx_cons_succ, List.eraseIdx_cons_succ, List.map_cons, era_map f ps k]
theorem dig_mem (c : Nat) : decide (c ∈ ("0123456789" : Str).cps.toList) = (decide (48 ≤ c) && decide (c ≤ 57)) := by
  have e : ("0123456789" : Str).cps.toList = [48, 49, 50, 51, 52, 53, 54, 55, 56, 57] := by decide +kernel
  rw [e, ← Bool.decide_and]
  refine decide_eq_decide.mpr ?_
  simp only [List.mem_cons, List.not_mem_nil, or_false]
  omega
theorem val_lt : ∀ (n : Nat) (cs : List Nat), cs.length = n → NumText.AllDigits cs → NumText.digitsVal cs < 10 ^ n := by
  intro n
  induction n with
  | zero =>
    intro cs l _
    rw [List.length_eq_zero_iff.mp l]; decide
  | succ n ih =>
    intro cs l dg
    have ne : cs ≠ [] := fun e => by rw [e] at l; cases l
    obtain ⟨pre, d, rfl⟩ : ∃ pre d, cs = pre ++ [d] := ⟨cs.dropLast, cs.getLast ne, (List.dropLast_concat_getLast ne).symm⟩
    have hd9 := dg d (List.mem_append_right _ (List.mem_singleton.mpr rfl))
    have q := ih pre (by rw [List.length_append] at l; simpa using l) fun x hx => dg x (List.mem_append_left _ hx)
    rw [NumText.digitsVal_snoc, Nat.pow_succ]
    omega
theorem val_small {z : Str} (l1 : 1 ≤ z.length) (l2 : z.length ≤ 60) (dg : digB z = true) : (valZ z).natAbs < 10 ^ 60 := by
  rw [val_dig l1 l2 dg, Int.natAbs_natCast]
  exact Nat.lt_of_lt_of_le (val_lt _ _ rfl (dig_all dg)) (Nat.pow_le_pow_right (by decide) (by rw [← TL.len_tl]; exact l2))
theorem cut_rest (x : V) (xs : List V) : cutV (x :: xs) (some 1) none = xs := by
  have h1 : HT.sIx (x :: xs).length 0 (some ((1 : Nat) : Int)) = min 1 (x :: xs).length := HT.sIx_nat ..
  have h2 : HT.sIx (x :: xs).length (x :: xs).length none = (x :: xs).length := rfl
  have e : cutV (x :: xs) (some 1) none = cutV (x :: xs) (some ((1 : Nat) : Int)) none := rfl
  rw [e]
  unfold cutV
  rw [h1, h2, List.length_cons, show min 1 (xs.length + 1) = 1 by omega, List.drop_succ_cons, List.drop_zero]
  exact List.take_of_length_le (by omega)
/-- what stands in a tuple -/
inductive Sc where
  | s (z : Str)
  | i (n : Int)
  | b (x : Bool)
def Sc.v : Sc → V
  | .s z => .str z
  | .i n => .int n
  | .b x => .bl x
def Sc.d : Sc → PyData
  | .s z => .str z
  | .i n => .int n
  | .b x => .bool x
def ScOk : Sc → Prop
  | .s z => z.length ≤ 1000000
  | _ => True
def ScT : Sc → Prop
  | .s z => PyData.strOk z = true
  | _ => True
def intO : Sc → Bool
  | .i _ => true
  | _ => false
def numO : Sc → Bool
  | .i n => numB n
  | _ => false
def nameO : Sc → Bool
  | .s z => nameB z
  | _ => false
def spIsIntG : Sp := fun vs H Q _ => ∃ x : Sc, vs = [x.v] ∧ Q (.bl (intO x)) H
def spIsNumG : Sp := fun vs H Q _ => ∃ x : Sc, vs = [x.v] ∧ Q (.bl (numO x)) H
def spIsNameG : Sp := fun vs H Q _ => ∃ x : Sc, vs = [x.v] ∧ ScOk x ∧ ∀ H', Same H H' → Q (.bl (nameO x)) H'
theorem fnOk_or {P : Program} {w : World} {K : PySem.W.Frag} {mg : Str → Option Value} {base : Heap} {CX : CXT} {k : Nat} {f : Addr} {fd : FuncData} {ps : List Str} {sp sp' : Sp} (F : FnOk P w K mg base CX k f fd ps sp) (G : FnOk P w K mg base CX k f fd ps sp') :
    FnOk P w K mg base CX k f fd ps (fun vs H Q E => sp vs H Q E ∨ sp' vs H Q E) :=
  ⟨fun vs H Q E h => h.elim (F.len vs H Q E) (G.len vs H Q E), fun A outer s H args us vs Q E hr e0 b r h => h.elim (F.run A outer s H args us vs Q E hr e0 b r) (G.run A outer s H args us vs Q E hr e0 b r)⟩
section
variable {P : Program} {w : World} {K : PySem.W.Frag} {mg : Str → Option Value} {base : Heap} {C CR CI : Addr}
def spLNum : Sp := fun vs H Q _ => ∃ (a : Addr) (m : Nat), vs = [.ref a] ∧ Src H a (m + 2) ∧ ∀ n H', numB n = true → Kp a H H' → Src H' a m → Q (.int n) H'
abbrev sNumber : Stmt := top 28
theorem scNumber : FnScope ["_law_source_here", "_law_digit"] ["_law_source_here"] (defScope sNumber) := ⟨rfl, rfl, rfl, by decide +kernel, rfl, by decide +kernel, by decide +kernel⟩
theorem ok_lnum {f : Addr} {fd : FuncData} (F : Fun K "_law_number" "_law_number" sNumber f fd) (c_draw : Cal P w K mg base CX0 1 "_law_draw" ["_law_source_here", "_law_many"] spDraw) : FnOk P w K mg base CX0 2 f fd ["_law_source_here"] spLNum := by
  refine F.ok scNumber (fun vs H Q E h => ?_) (fun cdv A outer s H vs Q E hr h => ?_)
  · obtain ⟨a, m, rfl, _⟩ := h
    rfl
  · obtain ⟨a, m, rfl, S, k⟩ := h
    have hr_draw := hr
    refine ⟨_, (pss_cons (ps_set (i := 1) scNumber.nd rfl (by first | exact Or.inl rfl | exact Or.inr rfl) (pe_cal c_draw hr_draw pass0 (pa_cons (pv 0) (pa_cons pe_int pa_nil))))
      (pss_cons (ps_if (pt_cmpR op_lt (pv 1) pe_int (nomark _))
        (pss_one (ps_ret (pe_ix (ixl K) (pe_lst (pa_cons pe_int (pa_cons pe_int (pa_cons pe_int pa_nil)))) (pv 1) (fun _ _ => rfl)))) pss_nil)
      (pss_cons (ps_if (pt_cmpR op_eq (pv 1) pe_int (nomark _))
        (pss_one (ps_ret (pe_op op_sub (pe_cal c_draw hr_draw pass0 (pa_cons (pv 0) (pa_cons (pe_op op_mul pe_int (pe_op op_pow pe_int pe_int)) pa_nil))) (pe_op op_pow pe_int pe_int)))) pss_nil)
      (pss_cons (ps_if (pt_cmpR op_eq (pv 1) pe_int (nomark _))
        (pss_one (ps_ret (pe_op op_sub (pe_op op_sub (pe_op op_pow pe_int pe_int) pe_int) (pe_cal c_draw hr_draw pass0 (pa_cons (pv 0) (pa_cons pe_int pa_nil)))))) pss_nil)
      (pss_one (ps_ret (pe_op op_sub (pe_op op_add (pe_cal c_draw hr_draw pass0 (pa_cons (pv 0) (pa_cons pe_int pa_nil))) pe_int) (pe_op op_pow pe_int pe_int)))))))), ?_⟩
    obtain ⟨M, e60, e59i, e60i, bM, _, b2⟩ := p59
    refine ⟨_, rfl, a, 6, m + 1, rfl, by decide, by decide, S, fun v H1 v0 v1 k1 S1 => ?_⟩
    refine ⟨_, rfl, _, _, rfl, rfl, _, rfl, ite2 (fun q => ?_) fun q => ?_⟩
    · have v3 := of_decide_eq_true q
      obtain ⟨n, e, b⟩ := num3 v0 v3
      refine ⟨(by show 3 ≤ sizeLine; decide), fun l hl => ⟨_, rfl, l, _, v, _, rfl, rfl, .of upd_same, e, k n _ b (k1.trans (Kp.new hl)) ((S1.mono (by omega)).new hl)⟩⟩
    · refine ⟨_, rfl, rfl, _, rfl, ite2 (fun q => ?_) fun q => ?_⟩
      · refine ⟨_, rfl, _, _, rfl, rfl, ⟨by decide, by decide, by decide⟩, _, _, rfl, rfl, .inl ⟨by decide, by decide⟩, ?_⟩
        rw [e59i]
        refine ⟨a, 2 * (M : Int), m, rfl, by omega, ?_, S1, fun u H2 u0 u1 k2 S2 => ?_⟩
        · rw [show (2 * (M : Int)).natAbs = 2 * M by omega]; exact b2
        · refine ⟨_, _, rfl, rfl, ⟨by decide, by decide, by decide⟩, _, _, rfl, rfl, ?_⟩
          rw [e59i]
          exact k _ H2 (numB_of (by rw [e60]; omega)) (k1.trans k2) S2
      · refine ⟨_, rfl, rfl, _, rfl, ite2 (fun q => ?_) fun q => ?_⟩
        · refine ⟨_, _, rfl, rfl, ⟨by decide, by decide, by decide⟩, _, _, rfl, rfl, _, rfl, a, 3, m, rfl, by decide, by decide, S1, fun u H2 u0 u1 k2 S2 => ⟨_, _, rfl, rfl, ?_⟩⟩
          rw [e60i]
          exact k _ H2 (numB_of (by rw [e60]; omega)) (k1.trans k2) S2
        · refine ⟨_, rfl, a, 3, m, rfl, by decide, by decide, S1, fun u H2 u0 u1 k2 S2 => ⟨_, _, rfl, rfl, _, _, rfl, rfl, ⟨by decide, by decide, by decide⟩, _, _, rfl, rfl, ?_⟩⟩
          rw [e60i]
          exact k _ H2 (numB_of (by rw [e60]; omega)) (k1.trans k2) S2
abbrev sIs_numeral : Stmt := top 13
theorem scIs_numeral : FnScope ["text", "digits", "letter"] ["text"] (defScope sIs_numeral) := ⟨rfl, rfl, rfl, by decide +kernel, rfl, by decide +kernel, by decide +kernel⟩
theorem ok_is_numeral {f : Addr} {fd : FuncData} {t : Tok} (F : Fun K "is_numeral" "is_numeral" sIs_numeral f fd) (mLen : mg "len" = none) (mAll : mg "all" = none) (mg_MOST_DIGITS : mg "MOST_DIGITS" = some (.int 60 t)) : FnOk P w K mg base CX0 1 f fd ["text"] spIsNumeral := by
  refine F.ok scIs_numeral (fun vs H Q E h => ?_) (fun cdv A outer s H vs Q E hr h => ?_)
  · obtain ⟨z, rfl, _⟩ := h
    rfl
  · obtain ⟨z, rfl, hz, k⟩ := h
    refine ⟨_, (pss_cons (ps_set (i := 1) scIs_numeral.nd rfl (by first | exact Or.inl rfl | exact Or.inr rfl) (pe_m1 PySem.F.slot_str_removeprefix PySem.F.type_str_removeprefix mt_removeprefix (pv 0) pe_str))
      (pss_cons (ps_if (pt_not (pt_chain op_le op_le pe_int (pe_callB call_len_str (by rfl) mLen (by decide +kernel) (pa_cons (pv 1) pa_nil)) (pe_glob (v := .int 60) rfl mg_MOST_DIGITS ⟨_, rfl⟩)))
        (pss_one (ps_ret pe_bl)) pss_nil)
      (pss_cons (ps_if (pt_not (pt_val (pe_callB (k_all K) (by rfl) mAll (by decide +kernel) (pa_cons (pe_lc (own := [("letter", 2)]) (g := (gName 2)) (tt := tYes) rfl scIs_numeral.nd (pi_str (pv 1)) (blkOk_by (own := [("letter", 2)]) (N := ["text", "digits", "letter"]) (sc := defScope sIs_numeral) (by decide +kernel)) (fun _ _ _ _ _ => (pg_name (i := 2) scIs_numeral.nd rfl (by first | exact Or.inl rfl | exact Or.inr rfl))) (fun _ _ _ _ _ => pts_nil) (fun _ _ _ _ _ => (pe_chain op_le_str op_le_str pe_str (pv 2) pe_str))) pa_nil))))
        (pss_one (ps_ret pe_bl)) pss_nil)
      (pss_one (ps_ret (pe_or (pe_cmpR op_ne (pe_ix ix_str (pv 1) pe_int (fun _ _ => rfl)) pe_str (nomark _)) (pe_one (pe_cmpR op_eq (pv 0) pe_str (nomark _))))))))), ?_⟩
    have zs : z.length ≤ sizeLine := Nat.le_trans hz (by decide)
    refine ⟨_, rfl, ⟨_, rfl⟩, _, _, rfl, rfl, zs, ?_⟩
    have dl : (digs z).length ≤ 1000000 := Nat.le_trans (rem_len z "-") hz
    have ez : Txt.removeprefix z "-" = digs z := rfl
    rw [ez]
    have zd : (digs z).length ≤ sizeLine := Nat.le_trans dl (by decide)
    refine ⟨_, rfl, _, rfl, zd, _, _, rfl, rfl, _, rfl, ?_⟩
    by_cases b1 : 1 ≤ (digs z).length
    · rw [decide_eq_true (by omega : (1 : Int) ≤ ((digs z).length : Nat))]
      refine iteT ⟨_, _, rfl, rfl, ?_⟩
      by_cases b2 : (digs z).length ≤ 60
      · refine ⟨true, congrArg V.bl (decide_eq_true (by omega)), iteF ?_⟩
        refine ⟨_, rfl, _, rfl, fun D hD => ?_⟩
        refine lc_it walk_str (fun i H' => H' D = some (.lst ((((digs z).cps.toList.take i).map fun c => decide (48 ≤ c) && decide (c ≤ 57)).map V.bl)) ∧ Same H H') ⟨upd_same, Same.new hD⟩ (fun _ _ _ _ => trivial) ?_ ?_
        · rintro i x H4 H5 hi ⟨h4, s4⟩ ⟨rfl, c, hc, rfl⟩
          refine ⟨rfl, yes_then ?_⟩
          have hc' : (digs z).cps.toList[i]? = some c := by rw [Array.getElem?_toList]; exact hc
          have hlen : i < (digs z).length := hi
          have fin : ∀ b : Bool, b = (decide (48 ≤ c) && decide (c ≤ 57)) → ∃ acc, H5 D = some (.lst acc) ∧ acc.length < sizeLine ∧
              upd H5 D (.lst (acc ++ [.bl b])) D = some (.lst ((((digs z).cps.toList.take (i + 1)).map fun c => decide (48 ≤ c) && decide (c ≤ 57)).map V.bl)) ∧ Same H (upd H5 D (.lst (acc ++ [.bl b]))) := by
            rintro b rfl
            refine ⟨_, h4, ?_, ?_, s4.mut hD⟩
            · rw [List.length_map, List.length_map]
              exact Nat.lt_of_le_of_lt (List.length_take_le _ _) (Nat.lt_of_lt_of_le (by omega : i < 61) (by decide))
            · rw [upd_same, List.take_add_one, hc', List.map_append, List.map_append]; rfl
          refine ⟨_, rfl, _, _, rfl, rfl, _, rfl, ite2 (fun q => ?_) fun q => ?_⟩
          · refine ⟨_, _, rfl, rfl, ?_⟩
            refine fin _ ?_
            have e1 : 48 ≤ c := le_of_sign0 q
            rw [decide_eq_true e1, Bool.true_and]
            exact sign_le c 57
          · refine fin false ?_
            have e1 : ¬ 48 ≤ c := fun h => q (le_sign0 h)
            rw [decide_eq_false e1, Bool.false_and]
        · rintro H4 ⟨h4, s4⟩
          refine ⟨D, _, rfl, .of h4, ?_⟩
          have e : digB (digs z) = ((((digs z).cps.toList.take (digs z).cps.size).map fun c => decide (48 ≤ c) && decide (c ≤ 57)).all id) := by
            unfold digB
            rw [List.take_of_length_le (by rw [Array.length_toList]; exact Nat.le_refl _), List.all_map]
            rfl
          rw [← e]
          refine ⟨_, rfl, ?_⟩
          have q := k H4 s4
          unfold numT at q
          rw [decide_eq_true b1, decide_eq_true b2, Bool.true_and, Bool.true_and] at q
          cases hb : digB (digs z) with
          | false =>
            rw [hb, Bool.false_and] at q
            exact iteT q
          | true =>
            rw [hb, Bool.true_and] at q
            refine iteF ?_
            have h0 : 0 < (digs z).cps.toList.length := by rw [Array.length_toList]; exact b1
            have hc : (digs z).cps.toList[0]? = some (digs z).cps.toList[0] := List.getElem?_eq_getElem h0
            have hc2 : (digs z).cps[0]? = some (digs z).cps.toList[0] := by rw [← Array.getElem?_toList]; exact hc
            generalize (digs z).cps.toList[0] = c0 at hc hc2
            rw [hc2] at q
            have ex : decide (V.str ⟨#[c0]⟩ = V.str "0") = decide (some c0 = some 48) := decide_eq_decide.mpr ⟨fun e => by
              have e := V.str.inj e
              have e2 : (⟨#[c0]⟩ : Str).cps.toList = ("0" : Str).cps.toList := by rw [e]
              have e3 : ("0" : Str).cps.toList = [48] := by decide +kernel
              rw [e3] at e2
              have e4 : [c0] = [48] := e2
              cases e4; rfl, fun e => by cases e; exact congrArg V.str (by decide +kernel)⟩
            refine ⟨_, rfl, _, (0 : Nat), c0, rfl, rfl, zd, atI_nat hc, rfl, _, rfl, ?_⟩
            rw [ex]
            by_cases e0 : some c0 = some 48
            · rw [decide_eq_true e0] at q ⊢
              refine iteF ⟨_, rfl, rfl, ?_⟩
              have ez2 : decide (V.str z = V.str "0") = decide (z = "0") := decide_eq_decide.mpr ⟨fun e => V.str.inj e, fun e => by rw [e]⟩
              rw [ez2]
              exact q
            · rw [decide_eq_false e0] at q ⊢
              exact iteT q
      · refine ⟨false, congrArg V.bl (decide_eq_false (by omega)), iteT ?_⟩
        have q := k H (Same.refl H)
        unfold numT at q
        rw [decide_eq_false b2, Bool.and_false, Bool.false_and, Bool.false_and] at q
        exact q
    · rw [decide_eq_false (by omega : ¬ (1 : Int) ≤ ((digs z).length : Nat))]
      refine iteF ⟨false, rfl, iteT ?_⟩
      have q := k H (Same.refl H)
      unfold numT at q
      rw [decide_eq_false b1, Bool.false_and, Bool.false_and, Bool.false_and] at q
      exact q
abbrev sIs_integer : Stmt := top 11
theorem scIs_integer : FnScope ["value"] ["value"] (defScope sIs_integer) := ⟨rfl, rfl, rfl, by decide +kernel, rfl, by decide +kernel, by decide +kernel⟩
theorem ok_is_integerG {f : Addr} {fd : FuncData} (F : Fun K "is_integer" "is_integer" sIs_integer f fd) (mIsi : mg "isinstance" = none) (mInt : mg "int" = none) (mBool : mg "bool" = none) : FnOk P w K mg base CX0 1 f fd ["value"] spIsIntG := by
  refine F.ok scIs_integer (fun vs H Q E h => ?_) (fun cdv A outer s H vs Q E hr h => ?_)
  · obtain ⟨n, rfl, _⟩ := h
    rfl
  · obtain ⟨x, rfl, k⟩ := h
    refine ⟨_, (pss_one (ps_ret (pe_and (pe_callB (k_isi K) (by rfl) mIsi (by decide +kernel) (pa_cons (pv 0) (pa_cons (pe_bltn (v := .ty "int") (by rfl) mInt (by decide +kernel) rfl) pa_nil))) (pe_one (pe_notT (pe_callB (k_isi K) (by rfl) mIsi (by decide +kernel) (pa_cons (pv 0) (pa_cons (pe_bltn (v := .ty "bool") (by rfl) mBool (by decide +kernel) rfl) pa_nil)))))))), ?_⟩
    cases x with
    | s z => exact ⟨_, rfl, _, _, _, _, false, rfl, .ty _, .base (.str _), kit_ty (by decide +kernel), _, rfl, iteF k⟩
    | i n =>
      refine ⟨_, rfl, _, _, _, _, true, rfl, .ty _, .base (.int _), kit_ty (by decide +kernel), _, rfl, iteT ?_⟩
      exact ⟨_, rfl, _, _, _, _, false, rfl, .ty _, .base (.int _), kit_ty (by decide +kernel), false, rfl, k⟩
    | b x =>
      refine ⟨_, rfl, _, _, _, _, true, rfl, .ty _, .base (.bl _), kit_ty (by decide +kernel), _, rfl, iteT ?_⟩
      exact ⟨_, rfl, _, _, _, _, true, rfl, .ty _, .base (.bl _), kit_ty (by decide +kernel), true, rfl, k⟩
abbrev sIs_number : Stmt := top 12
theorem scIs_number : FnScope ["value"] ["value"] (defScope sIs_number) := ⟨rfl, rfl, rfl, by decide +kernel, rfl, by decide +kernel, by decide +kernel⟩
theorem ok_is_numberG {f : Addr} {fd : FuncData} (F : Fun K "is_number" "is_number" sIs_number f fd) (mAbs : mg "abs" = none) (c_is_integer : Cal P w K mg base CX0 1 "is_integer" ["value"] spIsIntG) : FnOk P w K mg base CX0 2 f fd ["value"] spIsNumG := by
  refine F.ok scIs_number (fun vs H Q E h => ?_) (fun cdv A outer s H vs Q E hr h => ?_)
  · obtain ⟨n, rfl, _⟩ := h
    rfl
  · obtain ⟨x, rfl, k⟩ := h
    have hr_is_integer := hr
    refine ⟨_, (pss_one (ps_ret (pe_and (pe_cal c_is_integer hr_is_integer pass0 (pa_cons (pv 0) pa_nil)) (pe_one (pe_cmpR op_lt (pe_callB call_abs (by rfl) mAbs (by decide +kernel) (pa_cons (pv 0) pa_nil)) (pe_op op_pow pe_int pe_int) (nomark _)))))), ?_⟩
    cases x with
    | s z => exact ⟨_, rfl, .s z, rfl, _, rfl, iteF k⟩
    | b x => exact ⟨_, rfl, .b x, rfl, _, rfl, iteF k⟩
    | i n =>
      have k : _ := k
      refine ⟨_, rfl, .i n, rfl, _, rfl, iteT ⟨_, rfl, _, rfl, _, _, rfl, rfl, ⟨by decide, by decide, by decide⟩, _, _, rfl, rfl, ?_⟩⟩
      have e : numB n = decide ((if n < 0 then -n else n) < (10 : Int) ^ (60 : Int).toNat) := by
        unfold numB
        rw [show (60 : Int).toNat = 60 from rfl, show (10 : Int) ^ 60 = ((10 ^ 60 : Nat) : Int) by decide +kernel]
        generalize (10 ^ 60 : Nat) = M
        by_cases c : n < 0
        · rw [if_pos c]
          exact decide_eq_decide.mpr (by omega)
        · rw [if_neg c]
          exact decide_eq_decide.mpr (by omega)
      have k : Q (.bl (numB n)) H := k
      rw [e] at k
      exact k
theorem ok_is_nameO {f : Addr} {fd : FuncData} {t : Tok} (F : Fun K "is_name" "is_name" sIs_name f fd) (mIsi : mg "isinstance" = none) (mStr : mg "str" = none) (mLen : mg "len" = none) (mAll : mg "all" = none) (mg_LONGEST_NAME : mg "LONGEST_NAME" = some (.int 8 t)) : FnOk P w K mg base CX0 1 f fd ["value"] (fun vs H Q _ => ∃ x : Sc, vs = [x.v] ∧ (∀ z, x ≠ .s z) ∧ ∀ H', Same H H' → Q (.bl false) H') := by
  refine F.ok scIs_name (fun vs H Q E h => ?_) (fun cdv A outer s H vs Q E hr h => ?_)
  · obtain ⟨z, rfl, _⟩ := h
    rfl
  · obtain ⟨x, rfl, nx, k⟩ := h
    refine ⟨_, (pss_cons (ps_if (PW.pt (pw_or (pt_not (pt_val (pe_callB (k_isi K) (by rfl) mIsi (by decide +kernel) (pa_cons (pv 0) (pa_cons (pe_bltn (v := .ty "str") (by rfl) mStr (by decide +kernel) rfl) pa_nil))))) (pw_or1 (pt_not (pt_chain op_le op_le pe_int (pe_callB call_len_str (by rfl) mLen (by decide +kernel) (pa_cons (pv 0) pa_nil)) (pe_glob (v := .int 8) rfl mg_LONGEST_NAME ⟨_, rfl⟩))))))
        (pss_one (ps_ret pe_bl)) pss_nil)
      (pss_one (ps_ret (pe_callB (k_all K) (by rfl) mAll (by decide +kernel) (pa_cons (pe_lc (own := [("letter", 1)]) (g := (gName 1)) (tt := tYes) rfl scIs_name.nd (pi_str (pv 0)) (blkOk_by (own := [("letter", 1)]) (N := ["value", "letter"]) (sc := defScope sIs_name) (by decide +kernel)) (fun _ _ _ _ _ => (pg_name (i := 1) scIs_name.nd rfl (by first | exact Or.inl rfl | exact Or.inr rfl))) (fun _ _ _ _ _ => pts_nil) (fun _ _ _ _ _ => (pe_chain op_le_str op_le_str pe_str (pv 1) pe_str))) pa_nil))))), ?_⟩
    cases x with
    | s z => exact absurd rfl (nx z)
    | i n => exact ⟨_, rfl, _, _, _, _, false, rfl, .ty _, .base (.int _), kit_ty (by decide +kernel), _, rfl, iteT (k H (Same.refl H))⟩
    | b x => exact ⟨_, rfl, _, _, _, _, false, rfl, .ty _, .base (.bl _), kit_ty (by decide +kernel), _, rfl, iteT (k H (Same.refl H))⟩
theorem ok_is_nameG {f : Addr} {fd : FuncData} {t : Tok} (F : Fun K "is_name" "is_name" sIs_name f fd) (mIsi : mg "isinstance" = none) (mStr : mg "str" = none) (mLen : mg "len" = none) (mAll : mg "all" = none) (mg_LONGEST_NAME : mg "LONGEST_NAME" = some (.int 8 t)) : FnOk P w K mg base CX0 1 f fd ["value"] spIsNameG :=
  (fnOk_or (ok_is_name F mIsi mStr mLen mAll mg_LONGEST_NAME) (ok_is_nameO F mIsi mStr mLen mAll mg_LONGEST_NAME)).imp fun vs H Q E ⟨x, e, o, k⟩ => by
    cases x with
    | s z => exact .inl ⟨z, e, Nat.le_trans o (by decide), k⟩
    | i n => exact .inr ⟨_, e, (fun _ q => by cases q), k⟩
    | b x => exact .inr ⟨_, e, (fun _ q => by cases q), k⟩
end
end Mf
/-! An own object made, its __init__ may raise. -/
namespace Mf
open PySem PySem.Spec PyProof.Rows L2
section
variable {X : Cx} {CX : CXT} {k : Nat} {f C : Addr} {fd : FuncData} {ps : List Str} {sp : Sp} {E : L2.St → XK} {ds : List Value} {dvs : List V} {x : Str} {p pos : Pos} {e : Expr} {es : List Expr} {t : TA}
/-! an own object made, its __init__ may raise -/
theorem run_makeS {pins : List (Addr × Obj)} {σ : L2.St} {H : Hp} {s : Shared} {Q : VK} {us : List Value} {vs : List V} (M : Mk X.K C f) (F : FnOk X.prog X.w X.K X.mg X.base CX k f fd ps sp) (hr : Room (k + 1) X.A) (hb : Binds X.K fd ps ds) (hd : Vals dvs ds) (hx : PassesAt CX X σ (E σ)) (I : Inv X pins σ H s) (r : Vals vs us)
    (made : ∀ self dict, H self = none → H dict = none → dict ≠ self → sp (.ref self :: (vs ++ dvs)) (upd (upd H dict (.own self)) self (.ins C dict [])) (fun v H2 => v = .non ∧ Q (.ref self) H2) (E σ)) : wpAny (model X.prog X.w) X.A (call (.ref C) us) (EP X pins σ Q) X.xe s := by
  have spec := made (s.heap.objs.size + 1) s.heap.objs.size (I.hok.fresh (Nat.le_succ s.heap.objs.size)) (I.hok.fresh (Nat.le_refl s.heap.objs.size)) (Nat.succ_ne_self s.heap.objs.size).symm
  have J := I.made (C := C)
  have args : Vals (.ref (s.heap.objs.size + 1) :: (vs ++ dvs)) (.ref (s.heap.objs.size + 1) :: (us ++ ds)) := .cons rfl (r.append hd)
  have count : (Value.ref (s.heap.objs.size + 1) :: (us ++ ds)).length = ps.length := args.length.symm.trans (F.len _ _ _ _ spec)
  have inner := F.run _ X.stack _ _ ⟨.ref (s.heap.objs.size + 1) :: us, []⟩ (.ref (s.heap.objs.size + 1) :: (us ++ ds)) _ _ (E σ) (hr.make C us []) (J.env0.make C us []) (hb _ (.ref (s.heap.objs.size + 1) :: us) J.kIn count) args spec
  refine wpAny_call (make_map (f := f) I.kIn M.makes M.init (beq_iff_eq.mp M.fn) (codeAny_mono inner fun o s2 ho => ?_))
  rcases o with e | _ | _ | _ | u
  · exact hx pins _ _ e s2 J ho
  all_goals try exact False.elim ho
  obtain ⟨v, H3, J3, rel, rfl, q⟩ := J.after ho
  exact ⟨rel, .ref (s.heap.objs.size + 1), H3, J3, rfl, q⟩
def tMakeS (C : Addr) (sp : Sp) (dvs : List V) (E : L2.St → XK) (t : TA) : TE := fun σ H Q => t σ H fun vs H1 => ∀ x dx, H1 x = none → H1 dx = none → dx ≠ x →
  sp (.ref x :: (vs ++ dvs)) (upd (upd H1 dx (.own x)) x (.ins C dx [])) (fun v H2 => v = .non ∧ Q (.ref x) H2) (E σ)
theorem pe_makeS (M : Mk X.K C f) (F : FnOk X.prog X.w X.K X.mg X.base CX k f fd ps sp) (hr : Room (k + 1) X.A) (hg : Gl X x) (hm : X.mg x = some (.ref C)) (hb : Binds X.K fd ps ds) (hd : Vals dvs ds) (hx : ∀ σ, PassesAt CX X σ (E σ)) (ha : PA X (e :: es) t)
    (hdb : (x == ("__debug__" : Str)) = false) (he : starEach (e :: es) X.env = (false, eval e X.env) :: starEach es X.env) (hpl : (backTo pos (starEach es X.env)).any (·.1) = false) : PE X (.Call (.Name x p) (e :: es) [] pos) (tMakeS C sp dvs E t) :=
  ⟨fun pins s σ H Q I h => wpAny_Call_Name_kw (ld_glob I hg hm (PySem.W.callWith_K (h₀ := X.base) I.ok.mod.kin M.kp (thn (ha.run pos pins s σ H _ I h) fun vals s2 ⟨ys, H2, J, rel, goal⟩ => ⟨J.kIn, run_makeS M F hr hb hd (hx σ) J rel goal⟩) he hpl) hdb)⟩
theorem pe_mkcS (c : CalC X.prog X.w X.K X.mg X.base CX k x C ps sp dvs) (hr : Room (k + 1) X.A) (hx : ∀ σ, PassesAt CX X σ (E σ)) (ha : PA X (e :: es) t) (hg : Gl X x := by rfl)
    (hdb : (x == ("__debug__" : Str)) = false := by decide) (he : starEach (e :: es) X.env = (false, eval e X.env) :: starEach es X.env := by rfl) (hpl : (backTo pos (starEach es X.env)).any (·.1) = false := by rfl) :
    PE X (.Call (.Name x p) (e :: es) [] pos) (tMakeS C sp dvs E t) := by
  obtain ⟨f, fd, ds, M, F, mm, b, v⟩ := c.ex
  exact pe_makeS M F hr hg mm b v hx ha hdb he hpl
end
end Mf
/-! A class in a local name made, a classmethod called: both may raise. -/
namespace Mf
open PySem PySem.Spec PyProof.Rows L2
section
variable {X : Cx} {CX : CXT} {k : Nat} {g p C : Addr} {mc : Value} {m : Str} {sp : Sp} {E : L2.St → XK} {o e : Expr} {es : List Expr} {ta : TE} {t : TA} {apos pos : Pos} {pl : Sem Bool}
/-- a classmethod of a class, within try -/
theorem pe_cmethS (he : PE X o ta) (r : ClX.CRead X.K C mc) (c : ClX.CMet X.K C mc m p g) (F : FnR X.prog X.w X.K X.mg X.base CX k g sp) (hr : Room k X.A) (hx : ∀ σ, PassesAt CX X σ (E σ)) (ha : PA X (e :: es) t) (hst : starEach (e :: es) X.env = (false, eval e X.env) :: starEach es X.env := by rfl) (hpl : (backTo pos (starEach es X.env)).any (·.1) = false := by rfl)
    (ht : eval (.Call (.Attribute o m apos) (e :: es) [] pos) X.env = (do let ov ← eval o X.env; standAt apos.atName; let (f, first) ← holding [ov] (getMethod ov m pl); callWith pos f first (backTo pos (starEach (e :: es) X.env)) (backToKw pos (keywordEach [] X.env))) := by rfl) :
    PE X (.Call (.Attribute o m apos) (e :: es) [] pos) (fun σ H Q => ta σ H fun x H1 => x = .ref C ∧ t σ H1 fun vs H2 => sp (.ref C :: vs) H2 Q (E σ)) := by
  constructor
  intro pins s σ H Q I h
  refine PySem.W.methodCall_KW (pl := pl) (thn (he.run pins s σ H _ I h) fun u s2 ⟨x, H2, J, rel, ex, q⟩ => ?_) ht
  obtain rfl : x = V.ref C := ex
  obtain rfl : u = Value.ref C := rel
  refine ClX.getmethcm_ok J r c fun s3 J3 => ClX.callwith_cm J3 (ClX.base_none J (Nat.le_refl _)) c.fi (thn (ha.run pos _ s3 σ H2 _ J3 q) fun us s4 ⟨vs, H4, J4, rv, q4⟩ => ⟨⟨ClX.pin_at J4, J4.kIn⟩, ?_⟩) hst hpl
  have inner : wpAny (model X.prog X.w) X.A (call (.ref s2.heap.objs.size) us) (EP X ((s2.heap.objs.size, PySem.W.methodObj (.ref g) (.ref C)) :: pins) σ Q) X.xe s4 := by
    refine wpAny_call (PySem.W.method_call (ClX.pin_at J4) (codeAny_mono (F X.A X.stack s4 H4 (.ref C :: us) (.ref C :: vs) Q (E σ) hr J4.env0 (.cons rfl rv) q4) fun res s5 hres => ?_))
    rcases res with e | _ | _ | _ | u
    · exact hx σ _ _ _ e s5 J4 hres
    all_goals first | exact False.elim hres | exact J4.after hres
  exact thn inner fun _ _ y => ClX.unpinE y
end
/-- C(..) of a class that stands in a local name, its __init__ may raise -/
theorem pe_mklS {X : Cx} {CX : CXT} {k : Nat} {x y : Str} {C : Addr} {ps : List Str} {sp : Sp} {dvs : List V} {E : L2.St → XK} {e : Expr} {es : List Expr} {t : TA} {p pos : Pos} {te : TE} (c : CalC X.prog X.w X.K X.mg X.base CX k x C ps sp dvs) (hr : Room (k + 1) X.A) (hx : ∀ σ, PassesAt CX X σ (E σ)) (hn : PE X (.Name y p) te) (ha : PA X (e :: es) t)
    (he : starEach (e :: es) X.env = (false, eval e X.env) :: starEach es X.env := by rfl) (hpl : (backTo pos (starEach es X.env)).any (·.1) = false := by rfl) : PE X (.Call (.Name y p) (e :: es) [] pos) (fun σ H Q => te σ H fun v H1 => v = .ref C ∧ tMakeS C sp dvs E t σ H1 Q) := by
  obtain ⟨f, fd, ds, M, F, _, b, v⟩ := c.ex
  constructor
  intro pins s σ H Q I h
  refine wpAny_Call_Name_kw (thn (hn.run pins s σ H _ I h) fun u s2 ⟨z, H2, J, rel, ez, q⟩ => ?_)
  obtain rfl : z = V.ref C := ez
  obtain rfl : u = Value.ref C := rel
  exact PySem.W.callWith_K (h₀ := X.base) J.ok.mod.kin M.kp (thn (ha.run pos pins s2 σ H2 _ J q) fun us s3 ⟨vs, H3, J3, rv, q3⟩ => ⟨J3.kIn, run_makeS M F hr b v (hx σ) J3 rv q3⟩) he hpl
section
variable {P : Program} {w : World} {K : PySem.W.Frag} {mg : Str → Option Value} {base : Heap} {Cp C CI : Addr}
/-! ### Program.parse -/
end
end Mf
namespace Mf
open PySem L2
/-! ### fields and events -/
inductive Fd where
  | s (z : Str)
  | i (n : Int)
  | b (k : Bool)
  | tp (zs : List Str)
  | ls (zs : List Str)
def FdA (H : Hp) (v : V) : Fd → Prop
  | .s z => v = .str z
  | .i n => v = .int n
  | .b k => v = .bl k
  | .tp zs => ∃ t, v = .ref t ∧ H t = some (.tup (zs.map V.str))
  | .ls zs => ∃ t, v = .ref t ∧ H t = some (.lst (zs.map V.str))
theorem FdA.same {H H' : Hp} {v : V} {m : Fd} (x : FdA H v m) (s : Same H H') : FdA H' v m := by
  cases m with
  | s z => exact x
  | i n => exact x
  | b k => exact x
  | tp zs => obtain ⟨t, e, h⟩ := x; exact ⟨t, e, s _ _ h⟩
  | ls zs => obtain ⟨t, e, h⟩ := x; exact ⟨t, e, s _ _ h⟩
structure Ev where
  lst : Bool
  fs : List Fd
def EvA (K : PySem.W.Frag) (H : Hp) (v : V) (e : Ev) : Prop := ∃ (t : Addr) (vs : List V), v = .ref t ∧ (e.lst = true → H t = some (.lst vs)) ∧ (e.lst = false → SqT K H t vs) ∧ Paired (FdA H) vs e.fs
theorem EvA.same {K : PySem.W.Frag} {H H' : Hp} {v : V} {e : Ev} (x : EvA K H v e) (s : Same H H') : EvA K H' v e :=
  let ⟨t, vs, e1, h1, h2, p⟩ := x
  ⟨t, vs, e1, fun q => s _ _ (h1 q), fun q => s.tup (h2 q), paired_same p fun _ _ z => z.same s⟩
def plB : Fd → Bool
  | .tp zs => zs.all nameB
  | .ls zs => zs.all nameB
  | _ => false
def nuB : Fd → Bool
  | .i n => numB n
  | _ => false
def fsB : List Fd → Bool
  | [.s k, .s n, m] => nameB n && (if k = ("run" : Str) then plB m else decide (k = ("set" : Str)) && nuB m)
  | _ => false
def evB (e : Ev) : Bool := !e.lst && fsB e.fs
/-- the places' length -/
def FdOk : Fd → Prop
  | .tp zs => zs.length ≤ 3600 ∧ ∀ z ∈ zs, z.length ≤ 1000000
  | .ls zs => zs.length ≤ 3600 ∧ ∀ z ∈ zs, z.length ≤ 1000000
  | _ => True
def isPl : Fd → Prop
  | .i _ => False
  | .b _ => False
  | _ => True
def isNu : Fd → Prop
  | .i _ => True
  | .b _ => True
  | _ => False
def EvOk (e : Ev) : Prop := e.lst = false → e.fs.length = 3 → ∃ k n m, e.fs = [.s k, .s n, m] ∧ n.length ≤ 1000000 ∧ FdOk m ∧ (k = ("run" : Str) → isPl m) ∧ (k = ("set" : Str) → isNu m)
section
variable {P : Program} {w : World} {K : PySem.W.Frag} {mg : Str → Option Value} {base : Heap} {C CR CI : Addr}
/-! ### _are_places -/
def spPl : Sp := fun vs H Q _ => ∃ (v : V) (m : Fd), vs = [v] ∧ FdA H v m ∧ FdOk m ∧ isPl m ∧ ∀ H', Same H H' → Q (.bl (plB m)) H'
abbrev sAre_places : Stmt := top 19
theorem scAre_places : FnScope ["places", "names", "name"] ["places"] (defScope sAre_places) := ⟨rfl, rfl, rfl, by decide +kernel, rfl, by decide +kernel, by decide +kernel⟩
theorem ok_pl {f : Addr} {fd : FuncData} (F : Fun K "_are_places" "_are_places" sAre_places f fd) (T : NsC K mg C) (kS : PySem.W.kitOne K (.type "str") (.ref C) = some false) (mList : mg "list" = none) (c_is_name : Cal P w K mg base CX0 1 "is_name" ["value"] spIsNameG) : FnOk P w K mg base CX0 2 f fd ["places"] spPl := by
  refine F.ok scAre_places (fun vs H Q E h => ?_) (fun cdv A outer s H vs Q E hr h => ?_)
  · obtain ⟨v, m, rfl, _⟩ := h
    rfl
  · obtain ⟨v, m, rfl, hv, ok, pl, k⟩ := h
    have mg_NameSet := T.mgC; have mTuple := T.mTuple; have mIsi := T.mIsi; have mAll := T.mAll
    have hr_is_name := hr
    refine ⟨_, (C8.pss_cut (ps_if (pt_not (pt_val (pe_callB call_isiT (by rfl) mIsi (by decide +kernel) (pa_cons (pv 0) (pa_cons (pe_tup (pa_cons (pe_bltn (v := .ty "list") (by rfl) mList (by decide +kernel) rfl) (pa_cons (pe_bltn (v := .ty "tuple") (by rfl) mTuple (by decide +kernel) rfl) (pa_cons (pe_glob (v := .ref _) rfl mg_NameSet rfl) pa_nil)))) pa_nil)))))
        (pss_one (ps_ret pe_bl)) pss_nil)
      (pss_cons (ps_set (i := 1) scAre_places.nd rfl (by first | exact Or.inl rfl | exact Or.inr rfl) (pe_ifExp (pt_val (pe_callB (k_isi K) (by rfl) mIsi (by decide +kernel) (pa_cons (pv 0) (pa_cons (pe_glob (v := .ref _) rfl mg_NameSet rfl) pa_nil)))) (fldK K (pv 0)) (pv 0)))
      (pss_one (ps_ret (pe_callB (k_all K) (by rfl) mAll (by decide +kernel) (pa_cons (pe_lc (own := [("name", 2)]) (g := (gName 2)) (tt := tYes) rfl scAre_places.nd (piS K (pv 1)) (blkOk_by (own := [("name", 2)]) (N := ["places", "names", "name"]) (sc := defScope sAre_places) (by decide +kernel)) (fun _ _ _ _ _ => (pg_name (i := 2) scAre_places.nd rfl (by first | exact Or.inl rfl | exact Or.inr rfl))) (fun _ _ _ _ _ => pts_nil) (fun _ _ _ _ _ => (pe_cal c_is_name hr_is_name pass0 (pa_cons (pv 2) pa_nil)))) pa_nil)))))), ?_⟩
    refine ⟨fun σ' H' => ∃ (c : Addr) (zs : List Str) (t : Value), v = .ref c ∧ σ' = [some (.ref c), none, none] ∧ Same H H' ∧ (SqL K H' c (zs.map V.str) ∨ SqT K H' c (zs.map V.str)) ∧ TyX K H' (.ref c) t ∧ PySem.W.kitOne K t (.ref C) = some false ∧ zs.length ≤ 3600 ∧ (∀ z ∈ zs, z.length ≤ 1000000) ∧ plB m = zs.all nameB, ?_, ?_⟩
    · refine ⟨_, rfl, (by show 3 ≤ sizeLine; decide), fun tp ntp => ?_⟩
      have s0 := Same.new (o := .tup [.ty "list", .ty "tuple", .ref C]) ntp
      have htp : (upd H tp (.tup [.ty "list", .ty "tuple", .ref C])) tp = some (.tup [.ty "list", .ty "tuple", .ref C]) := upd_same
      generalize upd H tp (.tup [.ty "list", .ty "tuple", .ref C]) = H0 at s0 htp ⊢
      replace hv := hv.same s0
      have cl : Paired ClsV [V.ty "list", V.ty "tuple", V.ref C] [.type "list", .type "tuple", .ref C] := .cons (.ty _) (.cons (.ty _) (.cons (.own _) .nil))
      have nl : PySem.W.kitOne K (.type "tuple") (.type "list") = some false := kit_ty (by decide +kernel)
      have nl2 : PySem.W.kitOne K (.type "str") (.type "list") = some false := kit_ty (by decide +kernel)
      have nl3 : PySem.W.kitOne K (.type "str") (.type "tuple") = some false := kit_ty (by decide +kernel)
      have yl : PySem.W.kitOne K (.type "list") (.type "list") = some true := kit_ty (by decide +kernel)
      have yt : PySem.W.kitOne K (.type "tuple") (.type "tuple") = some true := kit_ty (by decide +kernel)
      cases m with
      | i n => exact pl.elim
      | b n => exact pl.elim
      | s z =>
        obtain rfl : v = .str z := hv
        exact ⟨_, tp, _, _, _, false, rfl, htp, cl, .base (.str _), kitAny_cons nl2 (fun _ => kitAny_cons nl3 (fun _ => kitAny_cons kS (fun _ => kitAny_nil) (fun h => by cases h)) (fun h => by cases h)) (fun h => by cases h), _, rfl, iteT (k H0 s0)⟩
      | ls zs =>
        obtain ⟨c, rfl, h⟩ := hv
        exact ⟨_, tp, _, _, _, true, rfl, htp, cl, .base (.lst h), kitAny_cons yl (fun h => by cases h) (fun _ => rfl), _, rfl, iteF ⟨c, zs, _, rfl, rfl, s0, .inl (.of h), .base (.lst h), T.kL, ok.1, ok.2, rfl⟩⟩
      | tp zs =>
        obtain ⟨c, rfl, h⟩ := hv
        exact ⟨_, tp, _, _, _, true, rfl, htp, cl, .base (.tup h), kitAny_cons nl (fun _ => kitAny_cons yt (fun h => by cases h) (fun _ => rfl)) (fun h => by cases h), _, rfl, iteF ⟨c, zs, _, rfl, rfl, s0, .inr (.of h), .base (.tup h), T.kT, ok.1, ok.2, rfl⟩⟩
    rintro σ H1 ⟨c, zs, t, _, rfl, s1, hc, ty, ko, few, lz, em⟩
    refine ⟨_, rfl, _, _, _, _, false, rfl, .own C, ty, ko, _, rfl, iteF ⟨_, rfl, ?_⟩⟩
    refine ⟨_, rfl, c, _, rfl, hc, fun J G wk hG D hD => ?_⟩
    refine lc_bools (fs := zs.map nameB) wk (by rw [List.length_map, List.length_map]) (by rw [List.length_map]; omega) hD hG (fun j x b H' Qe Pf hx hb s' kk => ?_) fun H3 s3 h3 => ?_
    · rw [List.getElem?_map] at hx hb
      obtain ⟨z, hz, rfl⟩ := Option.map_eq_some_iff.mp hx
      rw [hz] at hb
      obtain rfl := Option.some.inj hb
      exact ⟨rfl, yes_then ⟨_, rfl, .s z, rfl, lz z (List.mem_of_getElem? hz), fun H3 s3 => kk H3 s3⟩⟩
    · refine ⟨D, _, rfl, .of h3, ?_⟩
      have q := k H3 (s1.trans s3)
      rw [em] at q
      rw [List.all_map]
      exact q
/-! ### _is_event -/
theorem three_of {H : Hp} {vs : List V} {k n : Str} {m : Fd} (p : Paired (FdA H) vs [.s k, .s n, m]) : ∃ v, vs = [.str k, .str n, v] ∧ FdA H v m := by
  match vs, p with
  | [_, _, v], .cons a (.cons b (.cons c .nil)) =>
    obtain rfl := a
    obtain rfl := b
    exact ⟨v, rfl, c⟩
theorem evB_three {e : Ev} (h : evB e = true) : e.lst = false ∧ e.fs.length = 3 := by
  obtain ⟨l, fs⟩ := e
  unfold evB at h
  obtain ⟨h1, h2⟩ := Bool.and_eq_true_iff.mp h
  refine ⟨by simpa using h1, ?_⟩
  unfold fsB at h2
  split at h2
  · rename_i q; rw [q]; rfl
  · cases h2
theorem evB_short {e : Ev} (h : e.fs.length ≠ 3) : evB e = false := by
  cases q : evB e with
  | false => rfl
  | true => exact absurd (evB_three q).2 h
def spIsEvent (K : PySem.W.Frag) : Sp := fun vs H Q _ => ∃ (v : V) (e : Ev), vs = [v] ∧ EvA K H v e ∧ EvOk e ∧ ∀ H', Same H H' → Q (.bl (evB e)) H'
abbrev sIs_event : Stmt := top 18
theorem scIs_event : FnScope ["event", "kind", "_", "more"] ["event"] (defScope sIs_event) := ⟨rfl, rfl, rfl, by decide +kernel, rfl, by decide +kernel, by decide +kernel⟩
theorem ok_isEvent {f : Addr} {fd : FuncData} (F : Fun K "_is_event" "_is_event" sIs_event f fd) (mIsi : mg "isinstance" = none) (mTuple : mg "tuple" = none) (mLen : mg "len" = none) (c_is_name : Cal P w K mg base CX0 1 "is_name" ["value"] spIsNameG) (c_is_number : Cal P w K mg base CX0 2 "is_number" ["value"] spIsNumG) (c__are_places : Cal P w K mg base CX0 2 "_are_places" ["places"] spPl) : FnOk P w K mg base CX0 3 f fd ["event"] (spIsEvent K) := by
  refine F.ok scIs_event (fun vs H Q E h => ?_) (fun cdv A outer s H vs Q E hr h => ?_)
  · obtain ⟨v, m, rfl, _⟩ := h
    rfl
  · obtain ⟨v, e, rfl, ⟨t, vs, rfl, hl, ht, pr⟩, ok, k⟩ := h
    have hr_is_name : Room 1 _ := hr.mono (by decide : 1 ≤ 2); have hr_is_number := hr; have hr__are_places := hr
    refine ⟨_, (pss_cons (ps_if (PW.pt (pw_or (pt_not (pt_val (pe_callB (k_isi K) (by rfl) mIsi (by decide +kernel) (pa_cons (pv 0) (pa_cons (pe_bltn (v := .ty "tuple") (by rfl) mTuple (by decide +kernel) rfl) pa_nil))))) (pw_or (pt_cmpR op_ne (pe_callB (k_len K) (by rfl) mLen (by decide +kernel) (pa_cons (pv 0) pa_nil)) pe_int (nomark _)) (pw_or1 (pt_not (pt_val (pe_cal c_is_name hr_is_name pass0 (pa_cons (pe_ix (ixt K) (pv 0) pe_int (fun _ _ => rfl)) pa_nil))))))))
        (pss_one (ps_ret pe_bl)) pss_nil)
      (pss_cons (ps_asg (pv 0) (pg_tup rfl (pgs_cons (pg_name (i := 1) scIs_event.nd rfl (by first | exact Or.inl rfl | exact Or.inr rfl)) (pgs_cons (pg_name (i := 2) scIs_event.nd rfl (by first | exact Or.inl rfl | exact Or.inr rfl)) (pgs_cons (pg_name (i := 3) scIs_event.nd rfl (by first | exact Or.inl rfl | exact Or.inr rfl)) pgs_nil)))))
      (pss_cons (ps_if (pt_cmpR op_eq (pv 1) pe_str (nomark _))
        (pss_one (ps_ret (pe_cal c__are_places hr__are_places pass0 (pa_cons (pv 3) pa_nil)))) pss_nil)
      (pss_one (ps_ret (pe_and (pe_cmpR op_eq (pv 1) pe_str (nomark _)) (pe_one (pe_cal c_is_number hr_is_number pass0 (pa_cons (pv 3) pa_nil))))))))), ?_⟩
    obtain ⟨el, fs⟩ := e
    have lv := Paired.length pr
    cases el with
    | true =>
      refine ⟨_, rfl, _, _, _, _, false, rfl, .ty _, .base (.lst (hl rfl)), kit_ty (by decide +kernel), _, rfl, iteT ?_⟩
      exact k H (Same.refl H)
    | false =>
      have sq : SqT K H t vs := ht rfl
      refine ⟨_, rfl, _, _, _, _, true, rfl, .ty _, tyx_tup sq, kit_ty (by decide +kernel), _, rfl, iteF ?_⟩
      refine ⟨_, rfl, t, _, rfl, .inr sq, rfl, _, rfl, ite2 (fun q => ?_) fun q => ?_⟩
      · have e3 : fs.length ≠ 3 := fun e => by
          rw [lv] at q
          simp [e] at q
        have kk := k H (Same.refl H)
        rw [evB_short e3] at kk
        exact iteT kk
      have e3 : fs.length = 3 := by
        refine Classical.byContradiction fun c => q ?_
        rw [lv]
        simp only [Bool.not_eq_true', decide_eq_false_iff_not]
        intro z
        exact c (by have := V.int.inj z; omega)
      obtain ⟨kd, n, m, rfl, ln, mo, hp, hn⟩ := ok rfl e3
      obtain ⟨v3, rfl, f3⟩ := three_of pr
      refine ⟨_, rfl, t, _, (1 : Nat), _, rfl, rfl, sq, rfl, .s n, rfl, ln, fun H1 s1 => ⟨nameB n, rfl, ?_⟩⟩
      have mine : fsB [.s kd, .s n, m] = (nameB n && (if kd = ("run" : Str) then plB m else decide (kd = ("set" : Str)) && nuB m)) := rfl
      have me : evB ⟨false, [.s kd, .s n, m]⟩ = fsB [.s kd, .s n, m] := rfl
      rw [me, mine] at k
      cases nb : nameB n with
      | false =>
        have kk := k H1 s1
        rw [nb, Bool.false_and] at kk
        exact iteT kk
      | true =>
        rw [nb, Bool.true_and] at k
        refine iteF ⟨_, rfl, t, _, rfl, s1.tup sq, rfl, _, _, rfl, _, _, rfl, _, _, rfl, rfl, ?_⟩
        refine ⟨_, rfl, rfl, _, rfl, ite2 (fun q => ?_) fun q => ?_⟩
        · have q : kd = ("run" : Str) := V.str.inj (of_decide_eq_true q)
          rw [if_pos q] at k
          exact ⟨_, rfl, v3, m, rfl, f3.same s1, mo, hp q, fun H2 s2 => k H2 (s1.trans s2)⟩
        · have q : ¬ kd = ("run" : Str) := fun z => q (decide_eq_true (congrArg V.str z))
          rw [if_neg q] at k
          refine ⟨_, rfl, rfl, _, rfl, ite2 (fun q => ?_) fun q => ?_⟩
          · have q : kd = ("set" : Str) := V.str.inj (of_decide_eq_true q)
            rw [decide_eq_true q, Bool.true_and] at k
            cases m with
            | i x => obtain rfl : v3 = .int x := f3; exact ⟨_, rfl, .i x, rfl, k H1 s1⟩
            | b x => obtain rfl : v3 = .bl x := f3; exact ⟨_, rfl, .b x, rfl, k H1 s1⟩
            | s z => exact (hn q).elim
            | tp z => exact (hn q).elim
            | ls z => exact (hn q).elim
          · have q : ¬ kd = ("set" : Str) := fun z => q (decide_eq_true (congrArg V.str z))
            have kk := k H1 s1
            rw [decide_eq_false q, Bool.false_and] at kk
            exact kk
/-! ### _ordered_event -/
abbrev CalN (P : Program) (w : World) (K : PySem.W.Frag) (mg : Str → Option Value) (base : Heap) (C : Addr) (dvs : List V) : Prop := CalC P w K mg base CX0 1 "NameSet" C ["self", "names"] (spNsInit K C) dvs
def Fd.d : Fd → PyData
  | .s z => .str z
  | .i n => .int n
  | .b k => .bool k
  | .tp zs => .tuple (zs.map .str)
  | .ls zs => .tuple (zs.map .str)
def fdN : Fd → Fd
  | .ls zs => .tp zs
  | m => m
/-- an event as a history has it -/
def OrdD (e : Ev) (d : PyData) : Prop :=
  (∃ n zs ms, e.fs.map fdN = [.s "run", .s n, .tp zs] ∧ IsName n ∧ (∀ z ∈ ms, IsName z) ∧ Up ms ∧ (∀ z, z ∈ ms ↔ z ∈ zs) ∧ d = .tuple [.str "run", .str n, .tuple (ms.map .str)]) ∨
  (∃ n x, e.fs.map fdN = [.s "set", .s n, .i x] ∧ IsName n ∧ d = .tuple [.str "set", .str n, .int x])
theorem ord_one {e e' : Ev} {d d' : PyData} (h : e.fs.map fdN = e'.fs.map fdN) (x : OrdD e d) (y : OrdD e' d') : d = d' := by
  rcases x with ⟨n, zs, ms, h1, _, _, u, m, rfl⟩ | ⟨n, x, h1, _, rfl⟩ <;> rcases y with ⟨n', zs', ms', h2, _, _, u', m', rfl⟩ | ⟨n', x', h2, _, rfl⟩
  · rw [h1, h2] at h
    injection h with _ h
    injection h with hn h
    injection h with hz _
    injection hn with hn
    injection hz with hz
    subst hn hz
    rw [up_one u u' fun z => (m z).trans (m' z).symm]
  · rw [h1, h2] at h
    injection h with hk _
    injection hk with hk
    exact absurd hk (by decide +kernel)
  · rw [h1, h2] at h
    injection h with hk _
    injection hk with hk
    exact absurd hk (by decide +kernel)
  · rw [h1, h2] at h
    injection h with _ h
    injection h with hn h
    injection h with hx _
    injection hn with hn
    injection hx with hx
    rw [hn, hx]
theorem dp_strs {K : PySem.W.Frag} {H : Hp} : ∀ zs : List Str, DpAll K H (zs.map V.str) (zs.map PyData.str)
  | [] => .nil
  | z :: zs => .cons (.str z) (dp_strs zs)
theorem ord_sh {e : Ev} {d : PyData} (x : OrdD e d) : Sh 2 d := by
  rcases x with ⟨n, zs, ms, _, hn, hm, _, _, rfl⟩ | ⟨n, x, _, hn, rfl⟩
  · refine .tuple fun y hy => ?_
    simp only [List.mem_cons, List.not_mem_nil, or_false] at hy
    rcases hy with rfl | rfl | rfl
    · exact Sh.up (.str (by decide +kernel)) (by decide)
    · exact Sh.up (.str hn.ok) (by decide)
    · refine .tuple fun y hy => ?_
      obtain ⟨z, hz, rfl⟩ := List.mem_map.mp hy
      exact .str (hm z hz).ok
  · refine .tuple fun y hy => ?_
    simp only [List.mem_cons, List.not_mem_nil, or_false] at hy
    rcases hy with rfl | rfl | rfl
    · exact Sh.up (.str (by decide +kernel)) (by decide)
    · exact Sh.up (.str hn.ok) (by decide)
    · exact Sh.up (.int _) (by decide)
/-- such an event in the heap -/
def OrA (K : PySem.W.Frag) (H : Hp) (v : V) (d : PyData) : Prop :=
  (∃ (t : Addr) (n : Str) (u : Addr) (ms : List Str), v = .ref t ∧ SqT K H t [.str "run", .str n, .ref u] ∧ SqT K H u (ms.map V.str) ∧ d = .tuple [.str "run", .str n, .tuple (ms.map .str)]) ∨
  (∃ (t : Addr) (n : Str) (x : Int), v = .ref t ∧ SqT K H t [.str "set", .str n, .int x] ∧ d = .tuple [.str "set", .str n, .int x])
theorem OrA.dp {K : PySem.W.Frag} {H : Hp} {v : V} {d : PyData} (x : OrA K H v d) : Dp K H v d := by
  rcases x with ⟨t, n, u, ms, rfl, h1, h2, rfl⟩ | ⟨t, n, x, rfl, h1, rfl⟩
  · exact .tup h1 (.cons (.str _) (.cons (.str _) (.cons (.tup h2 (dp_strs ms)) .nil)))
  · exact .tup h1 (.cons (.str _) (.cons (.str _) (.cons (.int _) .nil)))
theorem OrA.by {K : PySem.W.Frag} {H H' : Hp} {v : V} {d : PyData} (x : OrA K H v d) (s : ∀ t xs, SqT K H t xs → SqT K H' t xs) : OrA K H' v d := by
  rcases x with ⟨t, n, u, ms, rfl, h1, h2, rfl⟩ | ⟨t, n, x, rfl, h1, rfl⟩
  · exact .inl ⟨t, n, u, ms, rfl, s _ _ h1, s _ _ h2, rfl⟩
  · exact .inr ⟨t, n, x, rfl, s _ _ h1, rfl⟩
theorem OrA.same {K : PySem.W.Frag} {H H' : Hp} {v : V} {d : PyData} (x : OrA K H v d) (s : Same H H') : OrA K H' v d := x.by fun _ _ h => s.tup h
theorem OrA.sameN {K : PySem.W.Frag} {H H' : Hp} {v : V} {d : PyData} (x : OrA K H v d) (s : SameN H H') : OrA K H' v d := x.by fun _ _ h => s.tup h
def spOrd (K : PySem.W.Frag) : Sp := fun vs H Q _ => ∃ (v : V) (e : Ev), vs = [v] ∧ EvA K H v e ∧ EvOk e ∧ evB e = true ∧ ∀ v' d H', Same H H' → OrA K H' v' d → OrdD e d → Q v' H'
abbrev sOrdered_event : Stmt := top 20
theorem scOrdered_event : FnScope ["event", "kind", "name", "more"] ["event"] (defScope sOrdered_event) := ⟨rfl, rfl, rfl, by decide +kernel, rfl, by decide +kernel, by decide +kernel⟩
theorem ok_ord {f : Addr} {fd : FuncData} (F : Fun K "_ordered_event" "_ordered_event" sOrdered_event f fd) (T : NsC K mg C) (mk1 : CalN P w K mg base C []) : FnOk P w K mg base CX0 3 f fd ["event"] (spOrd K) := by
  refine F.ok scOrdered_event (fun vs H Q E h => ?_) (fun cdv A outer s H vs Q E hr h => ?_)
  · obtain ⟨v, e, rfl, _⟩ := h
    rfl
  · obtain ⟨v, e, rfl, ⟨t, vs, rfl, hl, ht, pr⟩, ok, eb, k⟩ := h
    refine ⟨_, (pss_cons (ps_asg (pv 0) (pg_tup rfl (pgs_cons (pg_name (i := 1) scOrdered_event.nd rfl (by first | exact Or.inl rfl | exact Or.inr rfl)) (pgs_cons (pg_name (i := 2) scOrdered_event.nd rfl (by first | exact Or.inl rfl | exact Or.inr rfl)) (pgs_cons (pg_name (i := 3) scOrdered_event.nd rfl (by first | exact Or.inl rfl | exact Or.inr rfl)) pgs_nil)))))
      (pss_one (ps_ret (pe_ifExp (pt_cmpR op_eq (pv 1) pe_str (nomark _)) (pe_tup (pa_cons (pv 1) (pa_cons (pv 2) (pa_cons (fldK K (pe_mkc mk1 hr pass0 (pa_cons (pv 3) pa_nil))) pa_nil)))) (pv 0))))), ?_⟩
    obtain ⟨el, e3⟩ := evB_three eb
    obtain ⟨l, fs⟩ := e
    obtain rfl : l = false := el
    obtain ⟨kd, n, m, rfl, ln, mo, hp, hn⟩ := ok rfl e3
    obtain ⟨v3, rfl, f3⟩ := three_of pr
    have sq : SqT K H t [.str kd, .str n, v3] := ht rfl
    have eb : (nameB n && (if kd = ("run" : Str) then plB m else decide (kd = ("set" : Str)) && nuB m)) = true := eb
    obtain ⟨nb, eb⟩ := Bool.and_eq_true_iff.mp eb
    have iN := (nameB_iff n).mp nb
    refine ⟨_, rfl, t, _, rfl, sq, rfl, _, _, rfl, _, _, rfl, _, _, rfl, rfl, ?_⟩
    refine ⟨_, rfl, rfl, _, rfl, ite2 (fun q => ?_) fun q => ?_⟩
    · have q : kd = ("run" : Str) := V.str.inj (of_decide_eq_true q)
      subst q
      rw [if_pos rfl] at eb
      obtain ⟨zs, ax, al, em, few⟩ : ∃ zs, ArgS K C H v3 zs ∧ zs.all nameB = true ∧ fdN m = .tp zs ∧ zs.length ≤ 3600 := by
        cases m with
        | i x => cases eb
        | b x => cases eb
        | s z => cases eb
        | tp zs => obtain ⟨c, rfl, h⟩ := f3; exact ⟨zs, .tup h, eb, rfl, mo.1⟩
        | ls zs => obtain ⟨c, rfl, h⟩ := f3; exact ⟨zs, .lst h, eb, rfl, mo.1⟩
      have nz : ∀ z ∈ zs, IsName z := fun z hz => (nameB_iff z).mp (List.all_eq_true.mp al z hz)
      refine ⟨_, rfl, _, rfl, _, rfl, fun L dxL nL hdL _ => ?_⟩
      refine ⟨L, dxL, _, zs, rfl, upd_same, ax.same (ns_grow nL hdL), by omega, fun tL ms H9 upL mL g1 g2 kp => ⟨rfl, ?_⟩⟩
      obtain ⟨hL, e2⟩ := ns_after (by omega) (fun z hz => (nz z hz).ok) nL hdL upL mL g1 g2 kp
      refine ⟨L, C, dxL, _, _, rfl, g1, T.ins.cl, T.nM, flM_get tL, (by show 3 ≤ sizeLine; decide), fun p np => ?_⟩
      have s3 := Same.new (o := .tup [.str "run", .str n, .ref tL]) np
      refine k _ (.tuple [.str "run", .str n, .tuple (ms.map .str)]) _ (e2.trans s3) (.inl ⟨p, n, tL, ms, rfl, .of upd_same, .of (s3 _ _ g2), rfl⟩) (.inl ⟨n, zs, ms, ?_, iN, fun z hz => nz z ((mL z).mp hz), upL, mL, rfl⟩)
      show [Fd.s "run", Fd.s n, fdN m] = _
      rw [em]
    · have q : ¬ kd = ("run" : Str) := fun z => q (decide_eq_true (congrArg V.str z))
      rw [if_neg q] at eb
      obtain ⟨e1, e2⟩ := Bool.and_eq_true_iff.mp eb
      obtain rfl := of_decide_eq_true e1
      cases m with
      | i x =>
        obtain rfl : v3 = .int x := f3
        exact ⟨_, rfl, k _ (.tuple [.str "set", .str n, .int x]) H (Same.refl H) (.inr ⟨t, n, x, rfl, sq, rfl⟩) (.inr ⟨n, x, rfl, iN, rfl⟩)⟩
      | b x => cases e2
      | s z => cases e2
      | tp zs => cases e2
      | ls zs => cases e2
end
end Mf
namespace Mf
open PySem L2
def badFromE : Nat → List Ev → Nat
  | _, [] => 0
  | k, e :: es => if k = 200 ∨ evB e = false then k + 1 else badFromE (k + 1) es
def badE (es : List Ev) : Nat := badFromE 0 es
theorem badFromE_cons {k : Nat} {e : Ev} {es : List Ev} : badFromE k (e :: es) = if k = 200 ∨ evB e = false then k + 1 else badFromE (k + 1) es := rfl
theorem badFromE_zero : ∀ {es : List Ev} {k : Nat}, badFromE k es = 0 → ∀ e ∈ es, evB e = true
  | [], _, _ => fun _ h => nomatch h
  | e :: es, k, h => by
    rw [badFromE_cons] at h
    by_cases c : k = 200 ∨ evB e = false
    · rw [if_pos c] at h; cases h
    · rw [if_neg c] at h
      intro x hx
      rcases List.mem_cons.mp hx with rfl | hx
      · cases q : evB x with
        | true => rfl
        | false => exact absurd (.inr q) c
      · exact badFromE_zero h x hx
def AllE (es : List Ev) : Prop := ∀ e ∈ es, EvOk e
def flE (t : Addr) : List (Str × V) := putF "events" (.ref t) []
theorem flE_get (t : Addr) : (flE t).lookup ("events" : Str) = some (.ref t) := by
  unfold flE
  rw [lookup_putF, if_pos rfl]
structure HsC (K : PySem.W.Frag) (mg : Str → Option Value) (C : Addr) : Prop where
  ins : C8.InsC K C
  nE : NoAttr K C "events"
  mgC : mg "History" = some (.ref C)
section
variable {P : Program} {w : World} {K : PySem.W.Frag} {mg : Str → Option Value} {base : Heap} {C CH CR CI : Addr}
/-! ### InvalidHistory -/
def spIni1 (C : Addr) (n : Str) : Sp := fun vs H Q _ => ∃ (a : Addr) (v : V), vs = [.ref a, v] ∧ H a = some (exo a C none) ∧
  ∀ dx, H dx = none → dx ≠ a → Q .non (upd (upd H dx (exd dx [(n, v)])) a (exo a C (some dx)))
abbrev sInvalidHistoryInit : Stmt := inClass (top 3) 0
theorem scInvalidHistoryInit : FnScope ["self", "line"] ["self", "line"] (defScope sInvalidHistoryInit) := ⟨rfl, rfl, rfl, by decide +kernel, rfl, by decide +kernel, by decide +kernel⟩
theorem ok_InvalidHistory {f : Addr} {fd : FuncData} (F : Fun K "__init__" "InvalidHistory.__init__" sInvalidHistoryInit f fd) (T : OexC K C) (N : PySem.W.findIn K (.ref C) "line" = some none) : FnOk P w K mg base CX0 1 f fd ["self", "line"] (spIni1 C "line") := by
  refine F.ok scInvalidHistoryInit (fun vs H Q E h => ?_) (fun cdv A outer s H vs Q E hr h => ?_)
  · obtain ⟨a, v, rfl, _⟩ := h
    rfl
  · obtain ⟨a, v, rfl, ha, k⟩ := h
    refine ⟨_, pss_one (ps_ost (pv 0) (pv 1)), ?_⟩
    exact ⟨_, rfl, _, rfl, a, C, rfl, T, N, .inl ⟨ha, fun dx hd na => k dx hd na⟩⟩
/-- what tMkO asks of such an error -/
theorem mk_ini1 {H1 : Hp} {n : Str} {v : V} {Q : XK} (k : ∀ d H', H1 d = none → Same H1 H' → H' d = some (.xd [(n, v)]) → Q (.ref C) (some d) H') :
    ([v] : List V).length ≤ 1000 ∧ ∀ a, H1 a = none → spIni1 C n (.ref a :: ([v] ++ [])) (upd H1 a (exo a C none)) (fun x H2 => x = .non ∧ ∃ (d : Addr) (fs : List (Str × V)), H2 a = some (exo a C (some d)) ∧ H2 d = some (exd d fs) ∧ H1 d = none ∧ Q (.ref C) (some d) (upd (del H2 a) d (.xd fs))) (fun _ _ _ => False) := by
  refine ⟨(by show 1 ≤ 1000; decide), fun a ha => ⟨a, v, rfl, upd_same, fun dx hdx ne => ⟨rfl, dx, [(n, v)], upd_same, by rw [upd_ne ne]; exact upd_same, ?_, ?_⟩⟩⟩
  · rw [upd_ne ne] at hdx; exact hdx
  · have hdx0 : H1 dx = none := by rw [upd_ne ne] at hdx; exact hdx
    refine k dx _ hdx0 (fun b o hb => ?_) upd_same
    have b1 : b ≠ dx := ne_of_none hb hdx0
    have b2 : b ≠ a := ne_of_none hb ha
    rw [upd_ne b1, del_ne b2, upd_ne b2, upd_ne b1, upd_ne b2]
    exact hb
abbrev ErI (P : Program) (w : World) (K : PySem.W.Frag) (mg : Str → Option Value) (base : Heap) (CI : Addr) : Prop := ErC P w K mg base "InvalidHistory" CI ["self", "line"] (spIni1 CI "line")
abbrev LineE (CI : Addr) (E : XK) (H : Hp) (n : Nat) : Prop := ∀ dd H', H dd = none → Same H H' → H' dd = some (.xd [("line", .int (n : Nat))]) → E (.ref CI) (some dd) H'

/-! ### History.__init__ -/
def spHsInit (K : PySem.W.Frag) (CH CI : Addr) : Sp := fun vs H Q E => ∃ (p dx a : Addr) (us : List V) (es : List Ev), vs = [.ref p, .ref a] ∧ H p = some (.ins CH dx []) ∧ (SqL K H a us ∨ SqT K H a us) ∧ Paired (EvA K H) us es ∧ AllE es ∧ es.length ≤ 1000001 ∧ (badE es ≠ 0 → LineE CI E H (badE es)) ∧
  (badE es = 0 → ∀ t xs ds H', H' p = some (.ins CH dx (flE t)) → H' t = some (.tup xs) → Paired (OrA K H') xs ds → Paired OrdD es ds → (∀ b o, b ≠ p → H b = some o → H' b = some o) → Q .non H')
theorem rd_ins {H H' : Hp} {p t C dx : Addr} {fs : List (Str × V)} {o : HO} (h : ∀ b, b ≠ p → H' b = H b) (hp : H p = some (.ins C dx fs)) (ho : ∀ o', o ≠ .ins C dx fs ∧ HO.frz o' o ≠ .ins C dx fs) (r : Rd H t o) : Rd H' t o := by
  rcases r with r | ⟨o', r⟩
  · have n : t ≠ p := fun e => by
      rw [e, hp] at r
      exact (ho (Classical.choice ⟨default⟩)).1 (Option.some.inj r).symm
    exact .inl ((h t n).trans r)
  · have n : t ≠ p := fun e => by
      rw [e, hp] at r
      exact (ho o').2 (Option.some.inj r).symm
    exact .inr ⟨o', (h t n).trans r⟩
theorem sqL_ins {K : PySem.W.Frag} {H H' : Hp} {p t C dx : Addr} {fs : List (Str × V)} {xs : List V} (h : ∀ b, b ≠ p → H' b = H b) (hp : H p = some (.ins C dx fs)) (r : SqL K H t xs) : SqL K H' t xs :=
  r.imp (rd_ins h hp fun _ => ⟨(by intro z; cases z), by intro z; cases z⟩) id
theorem sqT_ins {K : PySem.W.Frag} {H H' : Hp} {p t C dx : Addr} {fs : List (Str × V)} {xs : List V} (h : ∀ b, b ≠ p → H' b = H b) (hp : H p = some (.ins C dx fs)) (r : SqT K H t xs) : SqT K H' t xs :=
  r.imp (rd_ins h hp fun _ => ⟨(by intro z; cases z), by intro z; cases z⟩) id
theorem OrA.ins {K : PySem.W.Frag} {H H' : Hp} {p C dx : Addr} {fs : List (Str × V)} {v : V} {d : PyData} (x : OrA K H v d) (h : ∀ b, b ≠ p → H' b = H b) (hp : H p = some (.ins C dx fs)) : OrA K H' v d := x.by fun _ _ q => sqT_ins h hp q
abbrev sHistoryInit : Stmt := inClass (top 17) 0
theorem scHistoryInit : FnScope ["self", "events", "line", "event"] ["self", "events"] (defScope sHistoryInit) := ⟨rfl, rfl, rfl, by decide +kernel, rfl, by decide +kernel, by decide +kernel⟩
set_option maxHeartbeats 1000000 in
theorem ok_hsInit {f : Addr} {fd : FuncData} {tk : Tok} {dvs : List V} {kws : List (Str × V)} {ar : Arguments} (F : FunD K "__init__" "History.__init__" ar (defBody sHistoryInit) (defScope sHistoryInit) dvs kws f fd) (T : HsC K mg CH) (U : ErI P w K mg base CI) (mEnum : mg "enumerate" = none) (mTuple : mg "tuple" = none) (mg_MOST_EVENTS : mg "MOST_EVENTS" = some (.int 200 tk)) (c__is_event : Cal P w K mg base CX0 3 "_is_event" ["event"] (spIsEvent K)) (c__ordered_event : Cal P w K mg base CX0 3 "_ordered_event" ["event"] (spOrd K)) : FnOk P w K mg base (L2.CX P w) 4 f fd ["self", "events"] (spHsInit K CH CI) := by
  refine F.ok scHistoryInit (fun vs H Q E h => ?_) (fun cdv A outer s H vs Q E hr h => ?_)
  · obtain ⟨p, dx, a, us, es, rfl, _⟩ := h
    rfl
  · obtain ⟨p, dx, a, us, es, rfl, hp, hq, pr, ok, few, kE, k⟩ := h
    have hr__is_event := hr; have hr__ordered_event := hr
    have hr2 : Room 2 _ := hr.mono (by decide : 2 ≤ 3)
    have ln := Paired.length pr
    refine ⟨_, (pss_cons (ps_for (passes_of rfl) rfl (pi_enumS (by rfl) mEnum (pa_cons (pv 1) pa_nil) (by decide) (by decide)) (pg_tup rfl (pgs_cons (pg_name (i := 2) scHistoryInit.nd rfl (by first | exact Or.inl rfl | exact Or.inr rfl)) (pgs_cons (pg_name (i := 3) scHistoryInit.nd rfl (by first | exact Or.inl rfl | exact Or.inr rfl)) pgs_nil)))
        (pss_one (ps_if (PW.pt (pw_or (pt_cmpR op_gt (pv 2) (pe_glob (v := .int 200) rfl mg_MOST_EVENTS ⟨_, rfl⟩) (nomark _)) (pw_or1 (pt_not (pt_val (pe_cal c__is_event hr__is_event pass0 (pa_cons (pv 3) pa_nil)))))))
          (pss_one (ps_raise rfl (takes_of rfl rfl rfl rfl) (pmk_er U hr2 pass0 (pa_cons (pv 2) pa_nil)))) pss_nil)))
      (pss_one (ps_fld (pv 0) (pe_callTy (k_tuple K) (by rfl) mTuple (by decide +kernel) (pa_cons (pe_lc (own := [("event", 3)]) (g := (gName 3)) (tt := tYes) rfl scHistoryInit.nd (piS K (pv 1)) (blkOk_by (own := [("event", 3)]) (N := ["self", "events", "line", "event"]) (sc := defScope sHistoryInit) (by decide +kernel)) (fun _ _ _ _ _ => (pg_name (i := 3) scHistoryInit.nd rfl (by first | exact Or.inl rfl | exact Or.inr rfl))) (fun _ _ _ _ _ => pts_nil) (fun _ _ _ _ _ => (pe_cal c__ordered_event hr__ordered_event pass0 (pa_cons (pv 3) pa_nil)))) pa_nil)) rfl))), ?_⟩
    refine ⟨_, rfl, a, us, rfl, ?_⟩
    refine hq.elim (fun hs => .inl ⟨hs, ?_⟩) (fun hs => .inr ⟨hs, ?_⟩)
    all_goals
      first
      | refine for_it walk_enumSL (fun i σ H' => ∃ (v1 v2 : Option V), σ = [some (.ref p), some (.ref a), v1, v2] ∧ Same H H' ∧ i ≤ 200 ∧ badFromE i (es.drop i) = badE es) ⟨none, none, rfl, Same.refl H, by decide, rfl⟩ (fun i σ H' _ q => same_SqL q.choose_spec.choose_spec.2.1 hs) ?_ ?_
      | refine for_it walk_enumST (fun i σ H' => ∃ (v1 v2 : Option V), σ = [some (.ref p), some (.ref a), v1, v2] ∧ Same H H' ∧ i ≤ 200 ∧ badFromE i (es.drop i) = badE es) ⟨none, none, rfl, Same.refl H, by decide, rfl⟩ (fun i σ H' _ q => Same.tup q.choose_spec.choose_spec.2.1 hs) ?_ ?_
      · rintro i x σ H1 H2 hi ⟨v1, v2, rfl, s1, l200, bf⟩ ⟨T0, x1, y, rfl, hT, rfl, e1, hu⟩
        obtain rfl : x1 = .int (1 + (i : Nat)) := (Option.some.inj e1).symm
        have hu : us[i]? = some y := hu
        obtain ⟨e, he, rq⟩ := paired_get pr hu
        have rm := List.mem_of_getElem? he
        have il := (List.getElem?_eq_some_iff.mp he).1
        have dr : es.drop i = e :: es.drop (i + 1) := by rw [List.drop_eq_getElem_cons il, (List.getElem?_eq_some_iff.mp he).2]
        rw [dr, badFromE_cons] at bf
        have s2 := s1.trans (Same.new (o := .tup [.int (1 + (i : Nat)), y]) hT)
        refine ⟨T0, _, rfl, .of upd_same, rfl, _, _, rfl, _, _, rfl, rfl, ?_⟩
        refine ⟨_, rfl, _, _, rfl, rfl, _, rfl, ite2 (fun q => ?_) fun q => ?_⟩
        · have q := of_decide_eq_true q
          have i200 : i = 200 := by omega
          rw [if_pos (.inl i200)] at bf
          refine iteT ⟨_, rfl, ?_⟩
          have en : (1 + (i : Nat) : Int) = ((badE es : Nat) : Int) := by rw [← bf]; omega
          exact mk_ini1 fun dd H3 nd s3 hd => kE (by rw [← bf]; omega) dd H3 (s2.free nd) (s2.trans s3) (by rw [← en]; exact hd)
        have n200 : i ≠ 200 := fun e => q (decide_eq_true (by omega))
        refine ⟨_, rfl, y, e, rfl, rq.same s2, ok e rm, fun H3 s3 => ?_⟩
        cases rr : evB e with
        | true =>
          rw [if_neg (fun h => h.elim n200 fun z => by rw [rr] at z; cases z)] at bf
          exact ⟨_, rfl, iteF ⟨_, _, rfl, s2.trans s3, by omega, bf⟩⟩
        | false =>
          rw [if_pos (.inr rr)] at bf
          refine ⟨_, rfl, iteT ⟨_, rfl, ?_⟩⟩
          have en : (1 + (i : Nat) : Int) = ((badE es : Nat) : Int) := by rw [← bf]; omega
          exact mk_ini1 fun dd H4 nd s4 hd => kE (by rw [← bf]; omega) dd H4 ((s2.trans s3).free nd) ((s2.trans s3).trans s4) (by rw [← en]; exact hd)
      · rintro σ H1 ⟨v1, v2, rfl, s1, _, bf⟩
        rw [ln, List.drop_length] at bf
        have b0 : badE es = 0 := bf.symm
        have good := badFromE_zero b0
        have kk := k b0
        have few2 : (2000000 : Nat) < sizeLine := by decide
        clear kE k bf
        refine ⟨_, rfl, a, us, rfl, same_Seq s1 hq, fun J G wk hG D hD => ?_⟩
        refine lc_it wk (fun i H' => Same H1 H' ∧ ∃ (xs : List V) (ds : List PyData), H' D = some (.lst xs) ∧ xs.length = i ∧ Paired (OrA K H') xs ds ∧ Paired OrdD (es.take i) ds) ⟨Same.new hD, [], [], upd_same, rfl, .nil, .nil⟩ (fun i H' _ q => hG _ q.1) ?_ ?_
        · rintro i x _ H2 hi ⟨s2, xs, ds, hD2, lx, p2, od⟩ ⟨rfl, hx⟩
          obtain ⟨e, he, rq⟩ := paired_get pr hx
          have em := List.mem_of_getElem? he
          refine ⟨rfl, yes_then ?_⟩
          refine ⟨_, rfl, x, e, rfl, rq.same (s1.trans s2), ok e em, good e em, fun v' d H3 s3 oa o => ?_⟩
          have hD3 := s3 _ _ hD2
          refine ⟨_, hD3, by omega, (s2.trans s3).mut hD, xs ++ [v'], ds ++ [d], upd_same, by rw [List.length_append, lx]; rfl, ?_, ?_⟩
          · exact paired_snoc (paired_same p2 fun _ _ z => (z.same s3).sameN (SameN.refl.put hD3)) (oa.sameN (SameN.refl.put hD3))
          · rw [List.take_add_one, he]
            exact paired_snoc od o
        · rintro H2 ⟨s2, xs, ds, hD2, lx, p2, od⟩
          rw [ln, List.take_length] at od
          refine ⟨D, _, rfl, .inl ⟨.of hD2, fun t nt => ?_⟩⟩
          have s3 := Same.new (o := .tup xs) nt
          have s13 := (s1.trans s2).trans s3
          have hp3 := s13 _ _ hp
          have tp : t ≠ p := ne_none nt ((s1.trans s2) _ _ hp)
          refine ⟨_, rfl, p, CH, dx, [], rfl, hp3, T.ins.cl, T.nE, (by show 0 < 1000; decide), ?_⟩
          refine kk t xs ds _ upd_same ((upd_ne tp).trans upd_same) (paired_same p2 fun _ _ z => (z.same s3).ins (fun b nb => upd_ne nb) hp3) od fun b o nb e => ?_
          rw [upd_ne nb]
          exact s13 _ _ e
end
end Mf
namespace Mf
open PySem L2
/-- the event of a line's words -/
def evW (g : List Str → Fd) : List Str → Ev
  | [] => ⟨false, []⟩
  | k :: ws =>
    if k = ("run" : Str) ∧ ws.length = 1 then ⟨false, [.s "run", .s (ws.getD 0 ""), .tp []]⟩
    else if k = ("run" : Str) ∧ 2 < ws.length ∧ ws.getD 1 "" = ("broken" : Str) then ⟨false, [.s "run", .s (ws.getD 0 ""), g (ws.drop 2)]⟩
    else if k = ("set" : Str) ∧ ws.length = 2 ∧ numT (ws.getD 1 "") = true then ⟨false, [.s "set", .s (ws.getD 0 ""), .i (valZ (ws.getD 1 ""))]⟩
    else ⟨false, []⟩
def rdP (l : Str) : Ev := evW Fd.ls (Txt.split l (" " : Str))
def rdL (l : Str) : Ev := evW Fd.tp (Txt.split l (" " : Str))
theorem evW_mal {g : List Str → Fd} {k : Str} {ws : List Str} (h1 : ¬ (k = ("run" : Str) ∧ ws.length = 1)) (h2 : ¬ (k = ("run" : Str) ∧ 2 < ws.length ∧ ws.getD 1 "" = ("broken" : Str))) (h3 : ¬ (k = ("set" : Str) ∧ ws.length = 2 ∧ numT (ws.getD 1 "") = true)) : evW g (k :: ws) = ⟨false, []⟩ := by
  show (if k = ("run" : Str) ∧ ws.length = 1 then _ else _) = _
  rw [if_neg h1, if_neg h2, if_neg h3]
theorem evW_run {g : List Str → Fd} {ws : List Str} (h : ws.length = 1) : evW g ("run" :: ws) = ⟨false, [.s "run", .s (ws.getD 0 ""), .tp []]⟩ := by
  show (if ("run" : Str) = ("run" : Str) ∧ ws.length = 1 then _ else _) = _
  rw [if_pos ⟨rfl, h⟩]
theorem evW_broken {g : List Str → Fd} {ws : List Str} (h : 2 < ws.length) (hb : ws.getD 1 "" = ("broken" : Str)) : evW g ("run" :: ws) = ⟨false, [.s "run", .s (ws.getD 0 ""), g (ws.drop 2)]⟩ := by
  show (if ("run" : Str) = ("run" : Str) ∧ ws.length = 1 then _ else _) = _
  rw [if_neg (fun q => by omega), if_pos ⟨rfl, h, hb⟩]
theorem evW_set {g : List Str → Fd} {ws : List Str} (h : ws.length = 2) (hb : numT (ws.getD 1 "") = true) : evW g ("set" :: ws) = ⟨false, [.s "set", .s (ws.getD 0 ""), .i (valZ (ws.getD 1 ""))]⟩ := by
  have ne : ("set" : Str) ≠ ("run" : Str) := by decide +kernel
  have e : evW g ("set" :: ws) = if ("set" : Str) = ("run" : Str) ∧ ws.length = 1 then ⟨false, [.s "run", .s (ws.getD 0 ""), .tp []]⟩ else if ("set" : Str) = ("run" : Str) ∧ 2 < ws.length ∧ ws.getD 1 "" = ("broken" : Str) then ⟨false, [.s "run", .s (ws.getD 0 ""), g (ws.drop 2)]⟩ else if ("set" : Str) = ("set" : Str) ∧ ws.length = 2 ∧ numT (ws.getD 1 "") = true then ⟨false, [.s "set", .s (ws.getD 0 ""), .i (valZ (ws.getD 1 ""))]⟩ else ⟨false, []⟩ := rfl
  rw [e, if_neg (fun q => ne q.1), if_neg (fun q => ne q.1), if_pos ⟨rfl, h, hb⟩]
theorem cut_drop (xs : List V) (k : Nat) : cutV xs (some (k : Int)) none = xs.drop k := by
  have h1 : HT.sIx xs.length 0 (some (k : Int)) = min k xs.length := HT.sIx_nat ..
  have h2 : HT.sIx xs.length xs.length none = xs.length := rfl
  unfold cutV
  rw [h1, h2]
  by_cases c : k ≤ xs.length
  · rw [Nat.min_eq_left c]
    exact List.take_of_length_le (by rw [List.length_drop]; omega)
  · rw [Nat.min_eq_right (by omega), List.drop_length, List.drop_eq_nil_of_le (by omega), List.take_nil]
theorem atI_get2 {ws : List Str} {i : Nat} (h : i < ws.length) : atI (ws.map V.str) (i : Nat) = some (.str (ws.getD i "")) := by
  unfold atI ixN
  rw [List.length_map]
  simp only [Int.natCast_nonneg, if_true]
  rw [if_pos (by omega)]
  show (ws.map V.str)[((i : Nat) : Int).toNat]? = _
  rw [Int.toNat_natCast, List.getElem?_map, List.getD_eq_getElem?_getD, List.getElem?_eq_getElem h]
  rfl
/-- an event none of whose lists stands in B -/
def EvF (K : PySem.W.Frag) (H : Hp) (B : Addr → Prop) (v : V) (e : Ev) : Prop := ∃ (t : Addr) (vs : List V), v = .ref t ∧ (e.lst = true → H t = some (.lst vs) ∧ ¬ B t) ∧ (e.lst = false → SqT K H t vs) ∧ Paired (fun v m => FdA H v m ∧ ∀ zs, m = .ls zs → ∀ c, v = .ref c → ¬ B c) vs e.fs
theorem EvF.ev {K : PySem.W.Frag} {H : Hp} {B : Addr → Prop} {v : V} {e : Ev} (x : EvF K H B v e) : EvA K H v e :=
  let ⟨t, vs, e1, h1, h2, p⟩ := x
  ⟨t, vs, e1, fun q => (h1 q).1, h2, paired_same p fun _ _ z => z.1⟩
theorem EvF.same {K : PySem.W.Frag} {H H' : Hp} {B : Addr → Prop} {v : V} {e : Ev} (x : EvF K H B v e) (s : Same H H') : EvF K H' B v e :=
  let ⟨t, vs, e1, h1, h2, p⟩ := x
  ⟨t, vs, e1, fun q => ⟨s _ _ (h1 q).1, (h1 q).2⟩, fun q => s.tup (h2 q), paired_same p fun _ _ z => ⟨z.1.same s, z.2⟩⟩
/-- what changes is a list in B only -/
theorem EvF.by {K : PySem.W.Frag} {H H' : Hp} {B : Addr → Prop} {v : V} {e : Ev} (x : EvF K H B v e) (s : SameN H H') (k : ∀ b o, ¬ B b → H b = some o → H' b = some o) : EvF K H' B v e := by
  obtain ⟨t, vs, e1, h1, h2, p⟩ := x
  refine ⟨t, vs, e1, fun q => ⟨k _ _ (h1 q).2 (h1 q).1, (h1 q).2⟩, fun q => s.tup (h2 q), paired_same p fun v m z => ⟨?_, z.2⟩⟩
  obtain ⟨z1, z2⟩ := z
  cases m with
  | s z => exact z1
  | i n => exact z1
  | b k => exact z1
  | tp zs =>
    obtain ⟨c, rfl, hc⟩ := z1
    exact ⟨c, rfl, s _ _ (fun _ e => by cases e) hc⟩
  | ls zs =>
    obtain ⟨c, rfl, hc⟩ := z1
    exact ⟨c, rfl, k _ _ (z2 zs rfl c rfl) hc⟩
theorem EvF.put {K : PySem.W.Frag} {H : Hp} {B : Addr → Prop} {D : Addr} {v : V} {e : Ev} {xs : List V} {o : HO} (x : EvF K H B v e) (h : H D = some (.lst xs)) (hB : B D) : EvF K (upd H D o) B v e :=
  x.by (SameN.refl.put h) fun b _ nb hb => (upd_ne fun e => nb (by rw [e]; exact hB)).trans hb
theorem EvF.kp {K : PySem.W.Frag} {H H' : Hp} {B : Addr → Prop} {a : Addr} {n : Nat} {v : V} {e : Ev} (x : EvF K H B v e) (k : Kp a H H') (S : Src H a n) (hB : B a) : EvF K H' B v e :=
  x.by (k.noL S) fun b o nb hb => k b o (fun e => nb (by rw [e]; exact hB)) hb
/-- an event whose lists are new -/
def EvN (K : PySem.W.Frag) (H H' : Hp) (v : V) (e : Ev) : Prop := ∀ B : Addr → Prop, (∀ c, B c → H c ≠ none) → EvF K H' B v e
theorem EvN.ev {K : PySem.W.Frag} {H H' : Hp} {v : V} {e : Ev} (x : EvN K H H' v e) : EvA K H' v e := (x (fun _ => False) fun _ h => h.elim).ev
theorem EvN.same {K : PySem.W.Frag} {H0 H H' : Hp} {v : V} {e : Ev} (x : EvN K H0 H v e) (s : Same H H') : EvN K H0 H' v e := fun B hB => (x B hB).same s
theorem ev_new {K : PySem.W.Frag} {H H' : Hp} {t : Addr} {vs : List V} {e : Ev} (el : e.lst = false) (sq : SqT K H' t vs) (p : Paired (fun v m => FdA H' v m ∧ ∀ zs, m = .ls zs → ∃ c, v = .ref c ∧ H c = none) vs e.fs) : EvN K H H' (.ref t) e :=
  fun B hB => ⟨t, vs, rfl, fun q => (by rw [el] at q; cases q), fun _ => sq, paired_same p fun v m z => ⟨z.1, fun zs em c e nB => by
    obtain ⟨c', e1, hc⟩ := z.2 zs em
    rw [e1] at e
    cases e
    exact hB _ nB hc⟩⟩
section
variable {P : Program} {w : World} {K : PySem.W.Frag} {mg : Str → Option Value} {base : Heap} {C CH CR CI : Addr}
/-! ### _parsed_event -/
def spPEv (K : PySem.W.Frag) : Sp := fun vs H Q _ => ∃ l : Str, vs = [.str l] ∧ l.length ≤ 1000000 ∧ spc l ≤ 3500 ∧ ∀ v H', Same H H' → EvN K H H' v (rdP l) → Q v H'
abbrev sParsed_event : Stmt := top 21
theorem scParsed_event : FnScope ["line", "kind", "words"] ["line"] (defScope sParsed_event) := ⟨rfl, rfl, rfl, by decide +kernel, rfl, by decide +kernel, by decide +kernel⟩
set_option maxHeartbeats 1000000 in
theorem ok_pev {f xM : Addr} {fd : FuncData} (F : Fun K "_parsed_event" "_parsed_event" sParsed_event f fd) (mLen : mg "len" = none) (mInt : mg "int" = none) (mg_MALFORMED : mg "MALFORMED" = some (.ref xM)) (qM : ∀ H, SqT K H xM []) (c_is_numeral : Cal P w K mg base CX0 1 "is_numeral" ["text"] spIsNumeral) : FnOk P w K mg base CX0 2 f fd ["line"] (spPEv K) := by
  refine F.ok scParsed_event (fun vs H Q E h => ?_) (fun cdv A outer s H vs Q E hr h => ?_)
  · obtain ⟨l, rfl, _⟩ := h
    rfl
  · obtain ⟨l, rfl, ll, lsp, k⟩ := h
    have hr_is_numeral := hr
    refine ⟨_, (pss_cons (ps_asg (pe_split (pv 0) pe_str) (pg_star rfl (pgs_cons (pg_name (i := 1) scParsed_event.nd rfl (by first | exact Or.inl rfl | exact Or.inr rfl)) (pgs_cons (pg_name (i := 2) scParsed_event.nd rfl (by first | exact Or.inl rfl | exact Or.inr rfl)) pgs_nil))))
      (pss_cons (ps_if (PW.pt (pw_and (pt_cmpR op_eq (pv 1) pe_str (nomark _)) (pw_and1 (pt_cmpR op_eq (pe_callB (k_len K) (by rfl) mLen (by decide +kernel) (pa_cons (pv 2) pa_nil)) pe_int (nomark _)))))
        (pss_one (ps_ret (pe_tup (pa_cons (pv 1) (pa_cons (pe_ix (ixl K) (pv 2) pe_int (fun _ _ => rfl)) (pa_cons (pe_tup pa_nil) pa_nil)))))) pss_nil)
      (pss_cons (ps_if (PW.pt (pw_and (pt_cmpR op_eq (pv 1) pe_str (nomark _)) (pw_and (pt_cmpR op_gt (pe_callB (k_len K) (by rfl) mLen (by decide +kernel) (pa_cons (pv 2) pa_nil)) pe_int (nomark _)) (pw_and1 (pt_cmpR op_eq (pe_ix (ixl K) (pv 2) pe_int (fun _ _ => rfl)) pe_str (nomark _))))))
        (pss_one (ps_ret (pe_tup (pa_cons (pv 1) (pa_cons (pe_ix (ixl K) (pv 2) pe_int (fun _ _ => rfl)) (pa_cons (pe_slice sl_list (pv 2) (po_some pe_int) po_none) pa_nil)))))) pss_nil)
      (pss_cons (ps_if (PW.pt (pw_and (pt_cmpR op_eq (pv 1) pe_str (nomark _)) (pw_and (pt_cmpR op_eq (pe_callB (k_len K) (by rfl) mLen (by decide +kernel) (pa_cons (pv 2) pa_nil)) pe_int (nomark _)) (pw_and1 (pt_val (pe_cal c_is_numeral hr_is_numeral pass0 (pa_cons (pe_ix (ixl K) (pv 2) pe_int (fun _ _ => rfl)) pa_nil)))))))
        (pss_one (ps_ret (pe_tup (pa_cons (pv 1) (pa_cons (pe_ix (ixl K) (pv 2) pe_int (fun _ _ => rfl)) (pa_cons (pe_callTy call_int_str (by rfl) mInt (by decide +kernel) (pa_cons (pe_ix (ixl K) (pv 2) pe_int (fun _ _ => rfl)) pa_nil)) pa_nil)))))) pss_nil)
      (pss_one (ps_ret (pe_glob (v := .ref _) rfl mg_MALFORMED rfl))))))), ?_⟩
    obtain ⟨q1, q2, q3⟩ := split_sum l (" " : Str) sp_ne (by decide +kernel)
    have big : (16777000 : Nat) < sizeLine := by decide
    have wsp := split_spc l
    refine ⟨_, rfl, ⟨_, rfl⟩, _, _, rfl, rfl, (by decide +kernel), by omega, fun L nL => ?_⟩
    unfold rdP at k
    cases hsp : Txt.split l (" " : Str) with
    | nil => exact absurd hsp q3
    | cons kd ws =>
      rw [hsp] at k q1 q2 wsp
      rw [List.length_cons] at wsp
      rw [List.map_cons, List.sum_cons] at q1
      have s1 := Same.new (o := .lst ((kd :: ws).map V.str)) nL
      refine ⟨L, .str kd, ws.map V.str, rfl, .of upd_same, by rw [List.length_map]; omega, fun W nW => ?_⟩
      generalize upd H L (.lst ((kd :: ws).map V.str)) = H1 at s1 nW ⊢
      have s2 := s1.trans (Same.new (o := .lst (ws.map V.str)) nW)
      have hW : (upd H1 W (.lst (ws.map V.str))) W = some (.lst (ws.map V.str)) := upd_same
      generalize upd H1 W (.lst (ws.map V.str)) = H2 at s2 hW ⊢
      clear s1 nW nL
      refine ⟨_, _, rfl, _, _, rfl, rfl, ?_⟩
      have at_ : ∀ i, i < ws.length → atI (ws.map V.str) (i : Nat) = some (.str (ws.getD i "")) := fun i hi => atI_get2 hi
      have mal : evW Fd.ls (kd :: ws) = ⟨false, []⟩ → Q (.ref xM) H2 := fun e => k _ _ s2 (by rw [e]; exact ev_new rfl (qM _) .nil)
      have lenq : ∀ {n : Nat}, ¬ (decide (V.int ((ws.map V.str).length : Nat) = V.int (n : Nat)) = true) → ws.length ≠ n := fun q e => q (decide_eq_true (by rw [List.length_map, e]))
      by_cases hk : kd = ("run" : Str)
      · subst hk
        refine ⟨_, rfl, rfl, _, rfl, ite2 (fun _ => ?_) fun q => absurd (decide_eq_true rfl) q⟩
        refine ⟨_, rfl, W, _, rfl, .inl (.of hW), rfl, _, rfl, ite2 (fun q => ?_) fun q => ?_⟩
        · have q : ws.length = 1 := by
            have := V.int.inj (of_decide_eq_true q)
            rw [List.length_map] at this; omega
          refine ⟨_, rfl, _, rfl, W, _, (0 : Int), _, rfl, rfl, .of hW, at_ 0 (by omega), (by show 0 ≤ sizeLine; decide), fun t0 nt0 => ⟨(by show 3 ≤ sizeLine; decide), fun t nt => ?_⟩⟩
          have st := (s2.trans (Same.new (o := .tup []) nt0))
          refine k _ _ (st.trans (Same.new nt)) ?_
          rw [evW_run q]
          exact ev_new rfl (.of upd_same) (.cons ⟨rfl, fun _ q => nomatch q⟩ (.cons ⟨rfl, fun _ q => nomatch q⟩ (.cons ⟨⟨t0, rfl, (Same.new nt) _ _ upd_same⟩, fun _ _ => ⟨t0, rfl, s2.free nt0⟩⟩ .nil)))
        have n1 : ws.length ≠ 1 := lenq (n := 1) q
        have setno : ¬ ("run" : Str) = ("set" : Str) := by decide +kernel
        refine ⟨_, rfl, rfl, _, rfl, ite2 (fun _ => ?_) fun q => absurd (decide_eq_true rfl) q⟩
        refine ⟨_, rfl, W, _, rfl, .inl (.of hW), _, _, rfl, rfl, _, rfl, ite2 (fun q => ?_) fun q => ?_⟩
        · have q : 2 < ws.length := by
            have := of_decide_eq_true q
            rw [List.length_map] at this; omega
          refine ⟨_, rfl, W, _, (1 : Int), _, rfl, rfl, .of hW, at_ 1 (by omega), rfl, _, rfl, ite2 (fun qb => ?_) fun qb => ?_⟩
          · have qb : ws.getD 1 "" = ("broken" : Str) := V.str.inj (of_decide_eq_true qb)
            refine ⟨_, rfl, _, rfl, W, _, (0 : Int), _, rfl, rfl, .of hW, at_ 0 (by omega), _, rfl, 2, rfl, W, _, rfl, .inl (.of hW), fun t0 nt0 => ?_⟩
            have ec : cutV (ws.map V.str) (some 2) none = (ws.drop 2).map V.str := (cut_drop _ 2).trans (by rw [List.map_drop])
            rw [ec]
            refine ⟨(by show 3 ≤ sizeLine; decide), fun t nt => ?_⟩
            have st := (s2.trans (Same.new (o := .lst ((ws.drop 2).map V.str)) nt0))
            refine k _ _ (st.trans (Same.new nt)) ?_
            rw [evW_broken q qb]
            exact ev_new rfl (.of upd_same) (.cons ⟨rfl, fun _ q => nomatch q⟩ (.cons ⟨rfl, fun _ q => nomatch q⟩ (.cons ⟨⟨t0, rfl, (Same.new nt) _ _ upd_same⟩, fun _ _ => ⟨t0, rfl, s2.free nt0⟩⟩ .nil)))
          · have qb : ws.getD 1 "" ≠ ("broken" : Str) := fun e => qb (decide_eq_true (congrArg V.str e))
            refine ⟨_, rfl, rfl, _, rfl, ite2 (fun q => absurd (V.str.inj (of_decide_eq_true q)) setno) fun _ => ?_⟩
            exact mal (evW_mal (fun z => n1 z.2) (fun z => qb z.2.2) fun z => setno z.1)
        · have q : ¬ 2 < ws.length := fun e => q (decide_eq_true (by rw [List.length_map]; omega))
          refine ⟨_, rfl, rfl, _, rfl, ite2 (fun q => absurd (V.str.inj (of_decide_eq_true q)) setno) fun _ => ?_⟩
          exact mal (evW_mal (fun z => n1 z.2) (fun z => q z.2.1) fun z => setno z.1)
      · refine ⟨_, rfl, rfl, _, rfl, ite2 (fun q => absurd (V.str.inj (of_decide_eq_true q)) hk) fun _ => ?_⟩
        refine ⟨_, rfl, rfl, _, rfl, ite2 (fun q => absurd (V.str.inj (of_decide_eq_true q)) hk) fun _ => ?_⟩
        refine ⟨_, rfl, rfl, _, rfl, ite2 (fun q => ?_) fun q => ?_⟩
        · have q : kd = ("set" : Str) := V.str.inj (of_decide_eq_true q)
          subst q
          refine ⟨_, rfl, W, _, rfl, .inl (.of hW), rfl, _, rfl, ite2 (fun q => ?_) fun q => ?_⟩
          · have q : ws.length = 2 := by
              have := V.int.inj (of_decide_eq_true q)
              rw [List.length_map] at this; omega
            have l2 : (ws.getD 1 "").length ≤ 1000000 := by
              rw [List.getD_eq_getElem?_getD, List.getElem?_eq_getElem (by omega)]
              have := le_sum (List.getElem_mem (by omega : 1 < ws.length))
              show (ws[1]).length ≤ _
              omega
            refine ⟨_, rfl, W, _, (1 : Int), _, rfl, rfl, .of hW, at_ 1 (by omega), _, rfl, l2, fun H3 s3 => ⟨numT (ws.getD 1 ""), rfl, ?_⟩⟩
            cases nw : numT (ws.getD 1 "") with
            | true =>
              obtain ⟨i1, i2⟩ := numT_int nw
              have hW3 := s3 _ _ hW
              refine iteT ⟨_, rfl, _, rfl, W, _, (0 : Int), _, rfl, rfl, .of hW3, at_ 0 (by omega), _, rfl, W, _, (1 : Int), _, rfl, rfl, .of hW3, at_ 1 (by omega), _, _, rfl, i1, by omega, (by show 3 ≤ sizeLine; decide), fun t nt => ?_⟩
              refine k _ _ ((s2.trans s3).trans (Same.new nt)) ?_
              rw [evW_set q nw]
              exact ev_new rfl (.of upd_same) (.cons ⟨rfl, fun _ q => nomatch q⟩ (.cons ⟨rfl, fun _ q => nomatch q⟩ (.cons ⟨rfl, fun _ q => nomatch q⟩ .nil)))
            | false =>
              have mal3 : evW Fd.ls ("set" :: ws) = ⟨false, []⟩ → Q (.ref xM) H3 := fun e => k _ _ (s2.trans s3) (by rw [e]; exact ev_new rfl (qM _) .nil)
              exact iteF (mal3 (evW_mal (fun z => hk z.1) (fun z => hk z.1) fun z => by rw [z.2.2] at nw; cases nw))
          · have q : ws.length ≠ 2 := lenq (n := 2) q
            exact mal (evW_mal (fun z => hk z.1) (fun z => hk z.1) fun z => q z.2.1)
        · have q : ¬ kd = ("set" : Str) := fun e => q (decide_eq_true (congrArg V.str e))
          exact mal (evW_mal (fun z => hk z.1) (fun z => hk z.1) fun z => q z.1)
end
end Mf
/-! An own object made without arguments, its __init__ may raise. -/
namespace Mf
open PySem PySem.Spec PyProof.Rows L2
section
variable {X : Cx} {CX : CXT} {k : Nat} {C : Addr} {ps : List Str} {sp : Sp} {E : L2.St → XK} {dvs : List V} {x y : Str} {p pos : Pos} {te : TE}
/-- C() of a class that stands in a local name -/
theorem pe_mklS0 (c : CalC X.prog X.w X.K X.mg X.base CX k x C ps sp dvs) (hr : Room (k + 1) X.A) (hx : ∀ σ, PassesAt CX X σ (E σ)) (hn : PE X (.Name y p) te) : PE X (.Call (.Name y p) [] [] pos) (fun σ H Q => te σ H fun v H1 => v = .ref C ∧ tMakeS C sp dvs E tNil σ H1 Q) := by
  obtain ⟨f, fd, ds, M, F, _, b, v⟩ := c.ex
  constructor
  intro pins s σ H Q I h
  refine wpAny_Call_Name_kw (thn (hn.run pins s σ H _ I h) fun u s2 ⟨z, H2, J, rel, ez, q⟩ => ?_)
  obtain rfl : z = V.ref C := ez
  obtain rfl : u = Value.ref C := rel
  exact PySem.W.callWith_K0 J.kIn M.kp (run_makeS (us := []) M F hr b v (hx σ) J .nil q)
/-- C() -/
theorem pe_mkcS0 (c : CalC X.prog X.w X.K X.mg X.base CX k x C ps sp dvs) (hr : Room (k + 1) X.A) (hx : ∀ σ, PassesAt CX X σ (E σ)) (hg : Gl X x := by rfl) (hdb : (x == ("__debug__" : Str)) = false := by decide) : PE X (.Call (.Name x p) [] [] pos) (tMakeS C sp dvs E tNil) := by
  obtain ⟨f, fd, ds, M, F, mm, b, v⟩ := c.ex
  exact ⟨fun pins s σ H Q I h => wpAny_Call_Name_kw (ld_glob I hg mm (PySem.W.callWith_K0 I.kIn M.kp (run_makeS (us := []) M F hr b v (hx σ) I .nil h)) hdb)⟩
end
end Mf
namespace Mf
open PySem L2
theorem getD_small {ws : List Str} {i B : Nat} (h : ∀ z ∈ ws, z.length ≤ B) : (ws.getD i "").length ≤ B := by
  rw [List.getD_eq_getElem?_getD]
  by_cases c : i < ws.length
  · rw [List.getElem?_eq_getElem c]; exact h _ (List.getElem_mem c)
  · rw [List.getElem?_eq_none (by omega)]; exact Nat.zero_le _
theorem evW_ok {g : List Str → Fd} (hg : ∀ zs, FdOk (g zs) = (zs.length ≤ 3600 ∧ ∀ z ∈ zs, z.length ≤ 1000000) ∧ isPl (g zs)) {ps : List Str} (few : ps.length ≤ 3501) (lz : ∀ z ∈ ps, z.length ≤ 1000000) : EvOk (evW g ps) := by
  intro _ h3
  cases ps with
  | nil => cases h3
  | cons k ws =>
    have lw : ∀ z ∈ ws, z.length ≤ 1000000 := fun z hz => lz z (List.mem_cons_of_mem _ hz)
    rw [List.length_cons] at few
    have rs : ("run" : Str) ≠ ("set" : Str) := by decide +kernel
    by_cases c1 : k = ("run" : Str) ∧ ws.length = 1
    · obtain ⟨rfl, c1⟩ := c1
      rw [evW_run c1]
      exact ⟨_, _, _, rfl, getD_small lw, ⟨Nat.zero_le _, fun _ h => nomatch h⟩, fun _ => True.intro, fun e => absurd e rs⟩
    by_cases c2 : k = ("run" : Str) ∧ 2 < ws.length ∧ ws.getD 1 "" = ("broken" : Str)
    · obtain ⟨rfl, c2, c3⟩ := c2
      rw [evW_broken c2 c3]
      exact ⟨_, _, _, rfl, getD_small lw, by rw [(hg _).1, List.length_drop]; exact ⟨by omega, fun z hz => lw z (List.mem_of_mem_drop hz)⟩, fun _ => (hg _).2, fun e => absurd e rs⟩
    by_cases c3 : k = ("set" : Str) ∧ ws.length = 2 ∧ numT (ws.getD 1 "") = true
    · obtain ⟨rfl, c3, c4⟩ := c3
      rw [evW_set c3 c4]
      exact ⟨_, _, _, rfl, getD_small lw, True.intro, fun e => absurd e.symm rs, fun _ => True.intro⟩
    · rw [evW_mal c1 c2 c3] at h3
      exact absurd h3 (by decide)
theorem words_ok {l : Str} (ll : l.length ≤ 1000000) (ls : spc l ≤ 3500) : (Txt.split l (" " : Str)).length ≤ 3501 ∧ ∀ z ∈ Txt.split l (" " : Str), z.length ≤ 1000000 := by
  obtain ⟨q1, _, _⟩ := split_sum l (" " : Str) sp_ne (by decide +kernel)
  have := split_spc l
  exact ⟨by omega, fun z hz => by have := le_sum hz; omega⟩
theorem rdP_ok {l : Str} (ll : l.length ≤ 1000000) (ls : spc l ≤ 3500) : EvOk (rdP l) := evW_ok (g := Fd.ls) (fun zs => ⟨rfl, show isPl (Fd.ls zs) from True.intro⟩) (words_ok ll ls).1 (words_ok ll ls).2
theorem rdL_ok {l : Str} (ll : l.length ≤ 1000000) (ls : spc l ≤ 3500) : EvOk (rdL l) := evW_ok (g := Fd.tp) (fun zs => ⟨rfl, show isPl (Fd.tp zs) from True.intro⟩) (words_ok ll ls).1 (words_ok ll ls).2
/-- the lines of a text -/
def lns (z : Str) : List Str := if z = ("" : Str) then [] else Txt.split z ("\n" : Str)
theorem lns_ok {z : Str} (lz : z.length ≤ 1000000) (sz : spc z ≤ 3500) : (∀ l ∈ lns z, l.length ≤ 1000000 ∧ spc l ≤ 3500) ∧ (lns z).length ≤ 1000001 := by
  unfold lns
  by_cases c : z = ("" : Str)
  · rw [if_pos c]; exact ⟨(fun _ h => nomatch h), Nat.zero_le _⟩
  · rw [if_neg c]
    obtain ⟨q1, q2, _⟩ := split_sum z ("\n" : Str) nl_ne (by decide +kernel)
    have q4 := part_spc z
    exact ⟨fun l hl => by
      have := le_sum hl
      have := le_spc hl
      omega, by omega⟩
section
variable {P : Program} {w : World} {K : PySem.W.Frag} {mg : Str → Option Value} {base : Heap} {C CH CR CI : Addr}
/-! ### History.parse -/
def HisA (K : PySem.W.Frag) (CH : Addr) (H : Hp) (p : Addr) (es : List Ev) : Prop := ∃ dx t xs ds, H p = some (.ins CH dx (flE t)) ∧ H t = some (.tup xs) ∧ Paired (OrA K H) xs ds ∧ Paired OrdD es ds
def spHsParse (K : PySem.W.Frag) (CH CI : Addr) : Sp := fun vs H Q E => ∃ z : Str, vs = [.ref CH, .str z] ∧ z.length ≤ 1000000 ∧ spc z ≤ 3500 ∧ (badE ((lns z).map rdP) ≠ 0 → LineE CI E H (badE ((lns z).map rdP))) ∧
  (badE ((lns z).map rdP) = 0 → ∀ p H', HisA K CH H' p ((lns z).map rdP) → Same H H' → Q (.ref p) H')
abbrev sHistoryParse : Stmt := inClass (top 17) 1
theorem scHistoryParse : FnScope ["cls", "text", "line"] ["cls", "text"] (defScope sHistoryParse) := ⟨rfl, rfl, rfl, by decide +kernel, rfl, by decide +kernel, by decide +kernel⟩
theorem ok_hsParse {f t0 : Addr} {fd : FuncData} (F : Fun K "parse" "History.parse" sHistoryParse f fd) (mk : CalC P w K mg base (L2.CX P w) 4 "History" CH ["self", "events"] (spHsInit K CH CI) []) (mk0 : CalC P w K mg base (L2.CX P w) 4 "History" CH ["self", "events"] (spHsInit K CH CI) [.ref t0]) (q0 : ∀ H, SqT K H t0 []) (c__parsed_event : Cal P w K mg base CX0 2 "_parsed_event" ["line"] (spPEv K)) : FnOk P w K mg base (L2.CX P w) 6 f fd ["cls", "text"] (spHsParse K CH CI) := by
  refine F.okX scHistoryParse (fun vs H Q E h => ?_) (fun cdv A outer s H vs Q E hr h => ?_)
  · obtain ⟨R, rfl, _⟩ := h
    rfl
  · obtain ⟨z, rfl, lz, sz', kE, k⟩ := h
    have hr__parsed_event : Room 2 _ := hr.mono (by decide : 2 ≤ 5)
    refine ⟨_, (pss_cons (ps_if (pt_cmpR op_eq (pv 1) pe_str (nomark _))
        (pss_one (ps_ret (pe_mklS0 mk0 hr (fun σ => passAt (takes_of rfl rfl rfl rfl) σ) (pv 0)))) pss_nil)
      (pss_one (ps_ret (pe_mklS mk hr (fun σ => passAt (takes_of rfl rfl rfl rfl) σ) (pv 0) (pa_cons (pe_lc (own := [("line", 2)]) (g := (gName 2)) (tt := tYes) rfl scHistoryParse.nd (pi_list (pe_split (pv 1) pe_str)) (blkOk_by (own := [("line", 2)]) (N := ["cls", "text", "line"]) (sc := defScope sHistoryParse) (by decide +kernel)) (fun _ _ _ _ _ => (pg_name (i := 2) scHistoryParse.nd rfl (by first | exact Or.inl rfl | exact Or.inr rfl))) (fun _ _ _ _ _ => pts_nil) (fun _ _ _ _ _ => (pe_cal c__parsed_event hr__parsed_event pass0 (pa_cons (pv 2) pa_nil)))) pa_nil))))), ?_⟩
    obtain ⟨lo, ln⟩ := lns_ok lz sz'
    have lns_eq : z ≠ ("" : Str) → lns z = Txt.split z ("\n" : Str) := fun c => by unfold lns; rw [if_neg c]
    refine ⟨_, rfl, rfl, _, rfl, ite2 (fun c => ?_) fun c => ?_⟩
    · have c : z = ("" : Str) := V.str.inj (of_decide_eq_true c)
      have el : lns z = [] := by unfold lns; rw [if_pos c]
      rw [el] at k kE
      refine ⟨_, rfl, rfl, fun p dx np ndx _ => ?_⟩
      have sg : Same H (upd (upd H dx (.own p)) p (.ins CH dx [])) := ns_grow np ndx
      refine ⟨p, dx, t0, [], [], rfl, upd_same, .inr (q0 _), .nil, (fun _ h => nomatch h), Nat.zero_le _, fun q => absurd rfl q, fun _ t xs ds H' h1 h2 pa po kp => ⟨rfl, ?_⟩⟩
      exact k rfl p H' ⟨dx, t, xs, ds, h1, h2, pa, po⟩ fun b o e => kp b o (ne_of_none e np) (sg _ _ e)
    · have c : z ≠ ("" : Str) := fun e => c (decide_eq_true (congrArg V.str e))
      rw [lns_eq c] at k kE lo ln
      obtain ⟨q1, q2, q3⟩ := split_sum z ("\n" : Str) nl_ne (by decide +kernel)
      have big : (16777000 : Nat) < sizeLine := by decide
      refine ⟨_, rfl, rfl, _, rfl, ⟨_, rfl⟩, _, _, rfl, rfl, (by decide +kernel), by omega, fun L nL => ?_⟩
      generalize Txt.split z ("\n" : Str) = ls at lo ln k kE nL ⊢
      have s1 := Same.new (o := .lst (ls.map V.str)) nL
      have hL : (upd H L (.lst (ls.map V.str))) L = some (.lst (ls.map V.str)) := upd_same
      generalize upd H L (.lst (ls.map V.str)) = H1 at s1 hL ⊢
      refine ⟨L, rfl, ⟨_, .of hL⟩, fun D nD => ?_⟩
      refine lc_it walk_list (fun i H' => Same H1 H' ∧ ∃ us : List V, H' D = some (.lst us) ∧ us.length = i ∧ Paired (EvF K H' (· = D)) us ((ls.map rdP).take i)) ⟨Same.new nD, [], upd_same, rfl, .nil⟩ (fun i H' _ q => .of (q.1 _ _ hL)) ?_ ?_
      · rintro i x _ H2 hi ⟨s2, us, hD2, lu, p2⟩ ⟨rfl, hx⟩
        rw [List.getElem?_map] at hx
        obtain ⟨l, hl, rfl⟩ := Option.map_eq_some_iff.mp hx
        rw [List.length_map] at hi
        obtain ⟨l1, l2⟩ := lo l (List.mem_of_getElem? hl)
        refine ⟨rfl, yes_then ?_⟩
        refine ⟨_, rfl, l, rfl, l1, l2, fun v H3 s3 ev => ?_⟩
        have hD3 := s3 _ _ hD2
        refine ⟨_, hD3, by rw [lu]; omega, (s2.trans s3).mut nD, us ++ [v], upd_same, by rw [List.length_append, lu]; rfl, ?_⟩
        rw [List.take_add_one, List.getElem?_map, hl]
        exact paired_snoc (paired_same p2 fun _ _ q => (q.same s3).put hD3 rfl) ((ev (· = D) (by rintro _ rfl; rw [hD2]; simp)).put hD3 rfl)
      · rintro H2 ⟨s2, us, hD2, lu, p2⟩
        rw [List.length_map, ← List.length_map (f := rdP), List.take_length] at p2
        intro p dx np ndx _
        have s12 := s1.trans s2
        have sg : Same H2 (upd (upd H2 dx (.own p)) p (.ins CH dx [])) := ns_grow np ndx
        refine ⟨p, dx, D, us, _, rfl, upd_same, .inl (.of (sg _ _ hD2)), paired_same p2 fun _ _ q => (q.ev.same sg), fun e he => ?_, by rw [List.length_map]; omega, fun nz dd H3 nd s3 hd => kE nz dd H3 ((s12.trans sg).free nd) ((s12.trans sg).trans s3) hd, fun b0 t xs ds H' h1 h2 pa po kp => ⟨rfl, ?_⟩⟩
        · obtain ⟨l, hl, rfl⟩ := List.mem_map.mp he
          exact rdP_ok (lo l hl).1 (lo l hl).2
        · exact k b0 p H' ⟨dx, t, xs, ds, h1, h2, pa, po⟩ fun b o e => kp b o (ne_of_none (s12 _ _ e) np) (sg _ _ (s12 _ _ e))
end
end Mf
namespace Mf
open PySem L2
section
variable {P : Program} {w : World} {K : PySem.W.Frag} {mg : Str → Option Value} {base : Heap} {C CH CR CI : Addr}
/-! ### _law_is_name -/
abbrev sLIsName : Stmt := top 29
theorem scLIsName : FnScope ["_law_thing", "_law_letters", "_law_sign"] ["_law_thing"] (defScope sLIsName) := ⟨rfl, rfl, rfl, by decide +kernel, rfl, by decide +kernel, by decide +kernel⟩
theorem ok_lis_nameO {f : Addr} {fd : FuncData} (F : Fun K "_law_is_name" "_law_is_name" sLIsName f fd) (mIsi : mg "isinstance" = none) (mStr : mg "str" = none) (mLen : mg "len" = none) (mAll : mg "all" = none) : FnOk P w K mg base CX0 1 f fd ["_law_thing"] (fun vs H Q _ => ∃ x : Sc, vs = [x.v] ∧ (∀ z, x ≠ .s z) ∧ ∀ H', Same H H' → Q (.bl false) H') := by
  refine F.ok scLIsName (fun vs H Q E h => ?_) (fun cdv A outer s H vs Q E hr h => ?_)
  · obtain ⟨z, rfl, _⟩ := h
    rfl
  · obtain ⟨x, rfl, nx, k⟩ := h
    refine ⟨_, (pss_cons (ps_set (i := 1) scLIsName.nd rfl (by first | exact Or.inl rfl | exact Or.inr rfl) pe_str)
      (pss_one (ps_ret (pe_and (pe_callB (k_isi K) (by rfl) mIsi (by decide +kernel) (pa_cons (pv 0) (pa_cons (pe_bltn (v := .ty "str") (by rfl) mStr (by decide +kernel) rfl) pa_nil))) (pe_and (pe_chain op_lt op_lt pe_int (pe_callB call_len_str (by rfl) mLen (by decide +kernel) (pa_cons (pv 0) pa_nil)) pe_int) (pe_one (pe_callB (k_all K) (by rfl) mAll (by decide +kernel) (pa_cons (pe_lc (own := [("_law_sign", 2)]) (g := (gName 2)) (tt := tYes) rfl scLIsName.nd (pi_str (pv 0)) (blkOk_by (own := [("_law_sign", 2)]) (N := ["_law_thing", "_law_letters", "_law_sign"]) (sc := defScope sLIsName) (by decide +kernel)) (fun _ _ _ _ _ => (pg_name (i := 2) scLIsName.nd rfl (by first | exact Or.inl rfl | exact Or.inr rfl))) (fun _ _ _ _ _ => pts_nil) (fun _ _ _ _ _ => (pe_cmpR op_in_sign (pv 2) (pv 1) (by rfl)))) pa_nil)))))))), ?_⟩
    cases x with
    | s z => exact absurd rfl (nx z)
    | i n => exact ⟨_, rfl, _, _, _, _, false, rfl, .ty _, .base (.int _), kit_ty (by decide +kernel), _, rfl, iteF (k H (Same.refl H))⟩
    | b x => exact ⟨_, rfl, _, _, _, _, false, rfl, .ty _, .base (.bl _), kit_ty (by decide +kernel), _, rfl, iteF (k H (Same.refl H))⟩
theorem low_mem (c : Nat) : decide (c ∈ ("abcdefghijklmnopqrstuvwxyz" : Str).cps.toList) = (decide (97 ≤ c) && decide (c ≤ 122)) := by
  have e : ("abcdefghijklmnopqrstuvwxyz" : Str).cps.toList = [97, 98, 99, 100, 101, 102, 103, 104, 105, 106, 107, 108, 109, 110, 111, 112, 113, 114, 115, 116, 117, 118, 119, 120, 121, 122] := by decide +kernel
  rw [e, ← Bool.decide_and]
  refine decide_eq_decide.mpr ?_
  simp only [List.mem_cons, List.not_mem_nil, or_false]
  omega
theorem ok_lis_nameS {f : Addr} {fd : FuncData} (F : Fun K "_law_is_name" "_law_is_name" sLIsName f fd) (mIsi : mg "isinstance" = none) (mStr : mg "str" = none) (mLen : mg "len" = none) (mAll : mg "all" = none) : FnOk P w K mg base CX0 1 f fd ["_law_thing"] spIsName := by
  refine F.ok scLIsName (fun vs H Q E h => ?_) (fun cdv A outer s H vs Q E hr h => ?_)
  · obtain ⟨z, rfl, _⟩ := h
    rfl
  · obtain ⟨z, rfl, hz, k⟩ := h
    refine ⟨_, (pss_cons (ps_set (i := 1) scLIsName.nd rfl (by first | exact Or.inl rfl | exact Or.inr rfl) pe_str)
      (pss_one (ps_ret (pe_and (pe_callB (k_isi K) (by rfl) mIsi (by decide +kernel) (pa_cons (pv 0) (pa_cons (pe_bltn (v := .ty "str") (by rfl) mStr (by decide +kernel) rfl) pa_nil))) (pe_and (pe_chain op_lt op_lt pe_int (pe_callB call_len_str (by rfl) mLen (by decide +kernel) (pa_cons (pv 0) pa_nil)) pe_int) (pe_one (pe_callB (k_all K) (by rfl) mAll (by decide +kernel) (pa_cons (pe_lc (own := [("_law_sign", 2)]) (g := (gName 2)) (tt := tYes) rfl scLIsName.nd (pi_str (pv 0)) (blkOk_by (own := [("_law_sign", 2)]) (N := ["_law_thing", "_law_letters", "_law_sign"]) (sc := defScope sLIsName) (by decide +kernel)) (fun _ _ _ _ _ => (pg_name (i := 2) scLIsName.nd rfl (by first | exact Or.inl rfl | exact Or.inr rfl))) (fun _ _ _ _ _ => pts_nil) (fun _ _ _ _ _ => (pe_cmpR op_in_sign (pv 2) (pv 1) (by rfl)))) pa_nil)))))))), ?_⟩
    refine ⟨_, rfl, _, _, _, _, true, rfl, .ty _, .base (.str _), kit_ty (by decide +kernel), _, rfl, iteT ?_⟩
    refine ⟨_, rfl, z, rfl, hz, _, _, rfl, rfl, _, rfl, ite2 (fun a1 => ?_) fun a1 => ?_⟩
    · have b1 : 1 ≤ z.length := by have := of_decide_eq_true a1; omega
      refine ⟨_, _, rfl, rfl, _, rfl, ite2 (fun a2 => ?_) fun a2 => ?_⟩
      · have b2 : z.length ≤ 8 := by have := of_decide_eq_true a2; omega
        refine ⟨_, rfl, _, rfl, fun D hD => ?_⟩
        refine lc_it walk_str (fun i H' => H' D = some (.lst (((z.cps.toList.take i).map fun c => decide (97 ≤ c) && decide (c ≤ 122)).map V.bl)) ∧ Same H H') ⟨upd_same, Same.new hD⟩ (fun _ _ _ _ => trivial) ?_ ?_
        · rintro i x H4 H5 hi ⟨h4, s4⟩ ⟨rfl, c, hc, rfl⟩
          refine ⟨rfl, yes_then ?_⟩
          have hc' : z.cps.toList[i]? = some c := by rw [Array.getElem?_toList]; exact hc
          have hlen : i < z.length := hi
          refine ⟨_, rfl, _, rfl, c, _, rfl, rfl, _, h4, ?_, ?_, s4.mut hD⟩
          · rw [List.length_map, List.length_map]
            exact Nat.lt_of_le_of_lt (List.length_take_le _ _) (Nat.lt_of_lt_of_le (by omega : i < 9) (by decide))
          · rw [upd_same, List.take_add_one, hc', List.map_append, List.map_append, low_mem]; rfl
        · rintro H4 ⟨h4, s4⟩
          refine ⟨D, _, rfl, .of h4, ?_⟩
          have e : nameB z = (((z.cps.toList.take z.cps.size).map fun c => decide (97 ≤ c) && decide (c ≤ 122)).all id) := by
            unfold nameB
            rw [decide_eq_true b1, decide_eq_true b2, List.take_of_length_le (by rw [Array.length_toList]; exact Nat.le_refl _), List.all_map]
            rfl
          have q := k H4 s4
          rw [e] at q
          exact q
      · have b2 : ¬ z.length ≤ 8 := fun q => a2 (decide_eq_true (by omega))
        have e : nameB z = false := by unfold nameB; rw [decide_eq_false b2, Bool.and_false, Bool.false_and]
        have q := k H (Same.refl H)
        rw [e] at q; exact q
    · have b1 : ¬ 1 ≤ z.length := fun q => a1 (decide_eq_true (by omega))
      have e : nameB z = false := by unfold nameB; rw [decide_eq_false b1, Bool.false_and, Bool.false_and]
      have q := k H (Same.refl H)
      rw [e] at q; exact ⟨_, rfl, iteF q⟩
theorem ok_lis_nameG {f : Addr} {fd : FuncData} (F : Fun K "_law_is_name" "_law_is_name" sLIsName f fd) (mIsi : mg "isinstance" = none) (mStr : mg "str" = none) (mLen : mg "len" = none) (mAll : mg "all" = none) : FnOk P w K mg base CX0 1 f fd ["_law_thing"] spIsNameG :=
  (fnOk_or (ok_lis_nameS F mIsi mStr mLen mAll) (ok_lis_nameO F mIsi mStr mLen mAll)).imp fun vs H Q E ⟨x, e, o, k⟩ => by
    cases x with
    | s z => exact .inl ⟨z, e, Nat.le_trans o (by decide), k⟩
    | i n => exact .inr ⟨_, e, (fun _ q => by cases q), k⟩
    | b x => exact .inr ⟨_, e, (fun _ q => by cases q), k⟩
/-! ### _law_valid -/
def NoLs (e : Ev) : Prop := ∀ zs, Fd.ls zs ∉ e.fs
def spValid (K : PySem.W.Frag) : Sp := fun vs H Q _ => ∃ (v : V) (e : Ev), vs = [v] ∧ EvA K H v e ∧ EvOk e ∧ NoLs e ∧ ∀ H', Same H H' → Q (.bl (evB e)) H'
abbrev sValid : Stmt := top 32
theorem scValid : FnScope ["_law_event", "_law_number_here", "_law_place"] ["_law_event"] (defScope sValid) := ⟨rfl, rfl, rfl, by decide +kernel, rfl, by decide +kernel, by decide +kernel⟩
set_option maxHeartbeats 1000000 in
theorem ok_valid {f : Addr} {fd : FuncData} (F : Fun K "_law_valid" "_law_valid" sValid f fd) (mIsi : mg "isinstance" = none) (mTuple : mg "tuple" = none) (mLen : mg "len" = none) (mInt : mg "int" = none) (mBool : mg "bool" = none) (mAll : mg "all" = none) (c_is_name : Cal P w K mg base CX0 1 "_law_is_name" ["_law_thing"] spIsNameG) : FnOk P w K mg base CX0 2 f fd ["_law_event"] (spValid K) := by
  refine F.ok scValid (fun vs H Q E h => ?_) (fun cdv A outer s H vs Q E hr h => ?_)
  · obtain ⟨v, m, rfl, _⟩ := h
    rfl
  · obtain ⟨v, e, rfl, ⟨t, vs, rfl, hl, ht, pr⟩, ok, nls, k⟩ := h
    have hr_is_name := hr
    refine ⟨_, (pss_cons (ps_if (PW.pt (pw_or (pt_not (pt_val (pe_callB (k_isi K) (by rfl) mIsi (by decide +kernel) (pa_cons (pv 0) (pa_cons (pe_bltn (v := .ty "tuple") (by rfl) mTuple (by decide +kernel) rfl) pa_nil))))) (pw_or (pt_cmpR op_ne (pe_callB (k_len K) (by rfl) mLen (by decide +kernel) (pa_cons (pv 0) pa_nil)) pe_int (nomark _)) (pw_or1 (pt_not (pt_val (pe_cal c_is_name hr_is_name pass0 (pa_cons (pe_ix (ixt K) (pv 0) pe_int (fun _ _ => rfl)) pa_nil))))))))
        (pss_one (ps_ret pe_bl)) pss_nil)
      (pss_cons (ps_if (pt_cmpR op_eq (pe_ix (ixt K) (pv 0) pe_int (fun _ _ => rfl)) pe_str (nomark _))
        (pss_cons (ps_set (i := 1) scValid.nd rfl (by first | exact Or.inl rfl | exact Or.inr rfl) (pe_and (pe_callB (k_isi K) (by rfl) mIsi (by decide +kernel) (pa_cons (pe_ix (ixt K) (pv 0) pe_int (fun _ _ => rfl)) (pa_cons (pe_bltn (v := .ty "int") (by rfl) mInt (by decide +kernel) rfl) pa_nil))) (pe_one (pe_notT (pe_callB (k_isi K) (by rfl) mIsi (by decide +kernel) (pa_cons (pe_ix (ixt K) (pv 0) pe_int (fun _ _ => rfl)) (pa_cons (pe_bltn (v := .ty "bool") (by rfl) mBool (by decide +kernel) rfl) pa_nil)))))))
        (pss_one (ps_ret (pe_and (pv 1) (pe_one (pe_chain op_lt op_lt (pe_op op_sub pe_int (pe_op op_pow pe_int pe_int)) (pe_ix (ixt K) (pv 0) pe_int (fun _ _ => rfl)) (pe_op op_pow pe_int pe_int))))))) pss_nil)
      (pss_cons (ps_if (PW.pt (pw_or (pt_cmpR op_ne (pe_ix (ixt K) (pv 0) pe_int (fun _ _ => rfl)) pe_str (nomark _)) (pw_or1 (pt_not (pt_val (pe_callB (k_isi K) (by rfl) mIsi (by decide +kernel) (pa_cons (pe_ix (ixt K) (pv 0) pe_int (fun _ _ => rfl)) (pa_cons (pe_bltn (v := .ty "tuple") (by rfl) mTuple (by decide +kernel) rfl) pa_nil))))))))
        (pss_one (ps_ret pe_bl)) pss_nil)
      (pss_one (ps_ret (pe_callB (k_all K) (by rfl) mAll (by decide +kernel) (pa_cons (pe_lc (own := [("_law_place", 2)]) (g := (gName 2)) (tt := tYes) rfl scValid.nd (piS K (pe_ix (ixt K) (pv 0) pe_int (fun _ _ => rfl))) (blkOk_by (own := [("_law_place", 2)]) (N := ["_law_event", "_law_number_here", "_law_place"]) (sc := defScope sValid) (by decide +kernel)) (fun _ _ _ _ _ => (pg_name (i := 2) scValid.nd rfl (by first | exact Or.inl rfl | exact Or.inr rfl))) (fun _ _ _ _ _ => pts_nil) (fun _ _ _ _ _ => (pe_cal c_is_name hr_is_name pass0 (pa_cons (pv 2) pa_nil)))) pa_nil))))))), ?_⟩
    obtain ⟨el, fs⟩ := e
    have lv := Paired.length pr
    cases el with
    | true =>
      refine ⟨_, rfl, _, _, _, _, false, rfl, .ty _, .base (.lst (hl rfl)), kit_ty (by decide +kernel), _, rfl, iteT ?_⟩
      exact k H (Same.refl H)
    | false =>
      have sq : SqT K H t vs := ht rfl
      refine ⟨_, rfl, _, _, _, _, true, rfl, .ty _, tyx_tup sq, kit_ty (by decide +kernel), _, rfl, iteF ?_⟩
      refine ⟨_, rfl, t, _, rfl, .inr sq, rfl, _, rfl, ite2 (fun q => ?_) fun q => ?_⟩
      · have e3 : fs.length ≠ 3 := fun e => by
          rw [lv] at q
          simp [e] at q
        have kk := k H (Same.refl H)
        rw [evB_short e3] at kk
        exact iteT kk
      have e3 : fs.length = 3 := by
        refine Classical.byContradiction fun c => q ?_
        rw [lv]
        simp only [Bool.not_eq_true', decide_eq_false_iff_not]
        intro z
        exact c (by have := V.int.inj z; omega)
      obtain ⟨kd, n, m, rfl, ln, mo, hp, hn⟩ := ok rfl e3
      obtain ⟨v3, rfl, f3⟩ := three_of pr
      refine ⟨_, rfl, t, _, (1 : Nat), _, rfl, rfl, sq, rfl, .s n, rfl, ln, fun H1 s1 => ⟨nameB n, rfl, ?_⟩⟩
      have mine : fsB [.s kd, .s n, m] = (nameB n && (if kd = ("run" : Str) then plB m else decide (kd = ("set" : Str)) && nuB m)) := rfl
      have me : evB ⟨false, [.s kd, .s n, m]⟩ = fsB [.s kd, .s n, m] := rfl
      rw [me, mine] at k
      have ne : ("set" : Str) ≠ ("run" : Str) := by decide +kernel
      replace sq := s1.tup sq
      cases nb : nameB n with
      | false =>
        have kk := k H1 s1
        rw [nb, Bool.false_and] at kk
        exact iteT kk
      | true =>
        rw [nb, Bool.true_and] at k
        refine iteF ⟨_, rfl, t, _, (0 : Nat), _, rfl, rfl, sq, rfl, rfl, _, rfl, ite2 (fun q => ?_) fun q => ?_⟩
        · have q : kd = ("set" : Str) := V.str.inj (of_decide_eq_true q)
          subst q
          rw [if_neg ne, decide_eq_true rfl, Bool.true_and] at k
          have kk := k H1 s1
          cases m with
          | s z => exact (hn rfl).elim
          | tp z => exact (hn rfl).elim
          | ls z => exact (hn rfl).elim
          | b x =>
            obtain rfl : v3 = .bl x := f3
            refine ⟨_, rfl, t, _, (2 : Nat), _, rfl, rfl, sq, rfl, _, _, _, _, true, rfl, .ty _, .base (.bl _), kit_ty (by decide +kernel), _, rfl, iteT ?_⟩
            exact ⟨_, rfl, t, _, (2 : Nat), _, rfl, rfl, sq, rfl, _, _, _, _, true, rfl, .ty _, .base (.bl _), kit_ty (by decide +kernel), true, rfl, _, rfl, _, rfl, iteF kk⟩
          | i n =>
            obtain rfl : v3 = .int n := f3
            refine ⟨_, rfl, t, _, (2 : Nat), _, rfl, rfl, sq, rfl, _, _, _, _, true, rfl, .ty _, .base (.int _), kit_ty (by decide +kernel), _, rfl, iteT ?_⟩
            refine ⟨_, rfl, t, _, (2 : Nat), _, rfl, rfl, sq, rfl, _, _, _, _, false, rfl, .ty _, .base (.int _), kit_ty (by decide +kernel), false, rfl, _, rfl, _, rfl, iteT ?_⟩
            have kk : Q (.bl (numB n)) H1 := kk
            have e1 : numB n = (decide ((0 : Int) - 10 ^ (60 : Int).toNat < n) && decide (n < (10 : Int) ^ (60 : Int).toNat)) := by
              unfold numB
              rw [show (60 : Int).toNat = 60 from rfl, show (10 : Int) ^ 60 = ((10 ^ 60 : Nat) : Int) by decide +kernel, ← Bool.decide_and]
              generalize (10 ^ 60 : Nat) = M
              exact decide_eq_decide.mpr (by omega)
            rw [e1] at kk
            refine ⟨_, _, rfl, rfl, ⟨by decide, by decide, by decide⟩, _, _, rfl, rfl, _, rfl, t, _, (2 : Nat), _, rfl, rfl, sq, rfl, _, _, rfl, rfl, _, rfl, ite2 (fun e => ?_) fun e => ?_⟩
            · rw [e, Bool.true_and] at kk
              exact ⟨_, _, rfl, rfl, ⟨by decide, by decide, by decide⟩, _, _, rfl, rfl, kk⟩
            · have e := Bool.eq_false_iff.mpr e
              rw [e, Bool.false_and] at kk
              exact kk
        · have q : ¬ kd = ("set" : Str) := fun z => q (decide_eq_true (congrArg V.str z))
          rw [decide_eq_false q, Bool.false_and] at k
          refine ⟨_, rfl, t, _, (0 : Nat), _, rfl, rfl, sq, rfl, rfl, _, rfl, ite2 (fun q => ?_) fun q => ?_⟩
          · have q : kd ≠ ("run" : Str) := fun e => by rw [e] at q; simp at q
            have kk := k H1 s1
            rw [if_neg q] at kk
            exact iteT kk
          · have q : kd = ("run" : Str) := Classical.byContradiction fun c => q (by
              simp only [Bool.not_eq_true', decide_eq_false_iff_not]
              exact fun e => c (V.str.inj e))
            rw [if_pos q] at k
            cases m with
            | i z => exact (hp q).elim
            | b z => exact (hp q).elim
            | ls z => exact absurd (show Fd.ls z ∈ [Fd.s kd, Fd.s n, Fd.ls z] by simp) (nls z)
            | s z =>
              obtain rfl : v3 = .str z := f3
              exact ⟨_, rfl, t, _, (2 : Nat), _, rfl, rfl, sq, rfl, _, _, _, _, false, rfl, .ty _, .base (.str _), kit_ty (by decide +kernel), _, rfl, iteT (k H1 s1)⟩
            | tp zs =>
              obtain ⟨c, rfl, hc⟩ := f3
              replace hc := s1 _ _ hc
              refine ⟨_, rfl, t, _, (2 : Nat), _, rfl, rfl, sq, rfl, _, _, _, _, true, rfl, .ty _, .base (.tup hc), kit_ty (by decide +kernel), _, rfl, iteF ?_⟩
              refine ⟨_, rfl, t, _, (2 : Nat), _, rfl, rfl, sq, rfl, c, _, rfl, .inr (.of hc), fun J G wk hG D hD => ?_⟩
              obtain ⟨few, lz⟩ := mo
              refine lc_bools (fs := zs.map nameB) wk (by rw [List.length_map, List.length_map]) (by rw [List.length_map]; omega) hD hG (fun j x b H' Qe Pf hx hb s' kk => ?_) fun H3 s3 h3 => ?_
              · rw [List.getElem?_map] at hx hb
                obtain ⟨z, hz, rfl⟩ := Option.map_eq_some_iff.mp hx
                rw [hz] at hb
                obtain rfl := Option.some.inj hb
                exact ⟨rfl, yes_then ⟨_, rfl, .s z, rfl, lz z (List.mem_of_getElem? hz), fun H3 s3 => kk H3 s3⟩⟩
              · refine ⟨D, _, rfl, .of h3, ?_⟩
                have q := k H3 (s1.trans s3)
                rw [List.all_map]
                exact q
end
end Mf
namespace Mf
open PySem L2
def figM (w : Str) : Str := if sgn w = "-" then cutS w (some 1) none else w
theorem fig_minus {w : Str} (h : (TL.tl w).head? = some 45) : sgn w = "-" ∧ figM w = cutS w (some 1) none ∧ TL.tl w = 45 :: TL.tl (cutS w (some 1) none) ∧ (w = "-0" ↔ cutS w (some 1) none = "0") := by
  have s2 : sgn w = "-" := (sgn_iff minus_tl).mpr h
  obtain ⟨r, hcs⟩ : ∃ r, TL.tl w = 45 :: r := by
    cases q : TL.tl w with
    | nil => rw [q] at h; cases h
    | cons a b => rw [q] at h; cases h; exact ⟨b, rfl⟩
  have ez := drop_tl hcs
  refine ⟨s2, by unfold figM; rw [if_pos s2], by rw [ez]; exact hcs, ?_⟩
  constructor
  · intro e
    refine TL.ext_tl ?_
    rw [ez, zero_tl]
    rw [e, m0_tl] at hcs
    exact (List.cons.inj hcs).2.symm
  · intro e
    refine TL.ext_tl ?_
    rw [hcs, ← ez, e, zero_tl, m0_tl]
theorem fig_plain {w : Str} (h : (TL.tl w).head? ≠ some 45) : ¬ sgn w = "-" ∧ figM w = w ∧ w ≠ "-0" := by
  have s2 : ¬ sgn w = "-" := fun q => h ((sgn_iff minus_tl).mp q)
  exact ⟨s2, by unfold figM; rw [if_neg s2], fun e => h (by rw [e, m0_tl]; rfl)⟩
theorem rd_yes {w : Str} (g : Good (figM w)) (n0 : w ≠ "-0") : numT w = true ∧ valZ w = (if sgn w = "-" then 0 - valZ (figM w) else valZ (figM w)) := by
  by_cases h : (TL.tl w).head? = some 45
  · obtain ⟨s2, ef, hw, mz⟩ := fig_minus h
    rw [ef] at g
    refine ⟨(numT_minus hw).mpr ⟨g, fun e => n0 (mz.mpr e)⟩, ?_⟩
    rw [if_pos s2, ef, val_dig g.l1 g.l2 g.dg]
    have dgs := dig_all g.dg
    have gl2 := g.l2
    have ne := ne_tl g.l1
    unfold valZ
    rw [intText_neg (cs := TL.tl (cutS w (some 1) none)) hw dgs ne (by rw [TL.len_tl, hw, List.length_cons, ← TL.len_tl]; omega)]
    show -((NumText.digitsVal (TL.tl (cutS w (some 1) none)) : Nat) : Int) = 0 - _
    omega
  · obtain ⟨s2, ef, _⟩ := fig_plain h
    rw [ef] at g
    refine ⟨(numT_plain h).mpr g, ?_⟩
    rw [if_neg s2, ef]
theorem rd_no {w : Str} (n : ¬ (Good (figM w) ∧ w ≠ "-0")) : numT w = false := by
  cases q : numT w with
  | false => rfl
  | true =>
    exfalso
    refine n ?_
    by_cases h : (TL.tl w).head? = some 45
    · obtain ⟨s2, ef, hw, mz⟩ := fig_minus h
      obtain ⟨g, g0⟩ := (numT_minus hw).mp q
      exact ⟨by rw [ef]; exact g, fun e => g0 (mz.mp e)⟩
    · obtain ⟨s2, ef, n0⟩ := fig_plain h
      exact ⟨by rw [ef]; exact (numT_plain h).mp q, n0⟩
section
variable {P : Program} {w : World} {K : PySem.W.Frag} {mg : Str → Option Value} {base : Heap} {C CH CR CI : Addr}
/-! ### _law_read_number -/
def spRdNum : Sp := fun vs H Q _ => ∃ z : Str, vs = [.str z] ∧ z.length ≤ 1000000 ∧ ∀ H', Same H H' → Q (if numT z = true then .int (valZ z) else .non) H'
abbrev sRead_number : Stmt := top 33
theorem scRead_number : FnScope ["_law_text", "_law_figures", "_law_sign"] ["_law_text"] (defScope sRead_number) := ⟨rfl, rfl, rfl, by decide +kernel, rfl, by decide +kernel, by decide +kernel⟩
set_option maxHeartbeats 1000000 in
theorem ok_rdnum {f : Addr} {fd : FuncData} (F : Fun K "_law_read_number" "_law_read_number" sRead_number f fd) (mInt : mg "int" = none) (mStr : mg "str" = none) (mLen : mg "len" = none) (mAll : mg "all" = none) : FnOk P w K mg base CX0 1 f fd ["_law_text"] spRdNum := by
  refine F.ok scRead_number (fun vs H Q E h => ?_) (fun cdv A outer s H vs Q E hr h => ?_)
  · obtain ⟨it, rfl, _⟩ := h
    rfl
  · obtain ⟨z, rfl, hz, k⟩ := h
    refine ⟨_, (C8.pss_cut (ps_set (i := 1) scRead_number.nd rfl (by first | exact Or.inl rfl | exact Or.inr rfl) (pe_ifExp (pt_cmpR op_eq (pe_slice sl_str (pv 0) po_none (po_some pe_int)) pe_str (nomark _)) (pe_slice sl_str (pv 0) (po_some pe_int) po_none) (pv 0)))
      (pss_cons (ps_if (PW.pt (pw_or (pt_cmpR op_eq (pv 1) pe_str (nomark _)) (pw_or (pt_cmpR op_gt (pe_callB call_len_str (by rfl) mLen (by decide +kernel) (pa_cons (pv 1) pa_nil)) pe_int (nomark _)) (pw_or1 (pt_not (pt_val (pe_callB (k_all K) (by rfl) mAll (by decide +kernel) (pa_cons (pe_lc (own := [("_law_sign", 2)]) (g := (gName 2)) (tt := tYes) rfl scRead_number.nd (pi_str (pv 1)) (blkOk_by (own := [("_law_sign", 2)]) (N := ["_law_text", "_law_figures", "_law_sign"]) (sc := defScope sRead_number) (by decide +kernel)) (fun _ _ _ _ _ => (pg_name (i := 2) scRead_number.nd rfl (by first | exact Or.inl rfl | exact Or.inr rfl))) (fun _ _ _ _ _ => pts_nil) (fun _ _ _ _ _ => (pe_cmpR op_in_sign (pv 2) pe_str (by rfl)))) pa_nil))))))))
        (pss_one (ps_ret pe_non)) pss_nil)
      (pss_cons (ps_if (PW.pt (pw_or (pt_cmpR op_ne (pe_callTy call_str_int (by rfl) mStr (by decide +kernel) (pa_cons (pe_callTy call_int_str (by rfl) mInt (by decide +kernel) (pa_cons (pv 1) pa_nil)) pa_nil)) (pv 1) (nomark _)) (pw_or1 (pt_cmpR op_eq (pv 0) pe_str (nomark _)))))
        (pss_one (ps_ret pe_non)) pss_nil)
      (pss_one (ps_ret (pe_ifExp (pt_cmpR op_eq (pe_slice sl_str (pv 0) po_none (po_some pe_int)) pe_str (nomark _)) (pe_op op_sub pe_int (pe_callTy call_int_str (by rfl) mInt (by decide +kernel) (pa_cons (pv 1) pa_nil))) (pe_callTy call_int_str (by rfl) mInt (by decide +kernel) (pa_cons (pv 1) pa_nil)))))))), ?_⟩
    have s1 : z.length ≤ sizeLine := Nat.le_trans hz (by decide)
    refine ⟨fun σ' H' => σ' = [some (.str z), some (.str (figM z)), none] ∧ H' = H, ?_, ?_⟩
    · refine ⟨_, rfl, 1, rfl, _, rfl, s1, rfl, _, rfl, ite2 (fun q => ?_) fun q => ?_⟩
      · have q : sgn z = "-" := V.str.inj (of_decide_eq_true q)
        refine ⟨_, rfl, 1, rfl, _, rfl, s1, ?_, rfl⟩
        have ef : figM z = cutS z (some 1) none := by unfold figM; rw [if_pos q]
        rw [ef]; rfl
      · have q : ¬ sgn z = "-" := fun e => q (decide_eq_true (congrArg V.str e))
        refine ⟨_, rfl, ?_, rfl⟩
        have ef : figM z = z := by unfold figM; rw [if_neg q]
        rw [ef]; rfl
    rintro σ H2 ⟨rfl, rfl⟩
    have lf : (figM z).length ≤ 1000000 := by
      unfold figM
      split
      · exact Nat.le_trans (cutS_length z _ _) hz
      · exact hz
    have no : ∀ H3, Same H2 H3 → ¬ (Good (figM z) ∧ z ≠ "-0") → Q .non H3 := fun H3 s n => by
      have kk := k H3 s
      rw [rd_no n, if_neg (by simp)] at kk
      exact kk
    refine ⟨_, rfl, rfl, _, rfl, ite2 (fun q => ?_) fun q => ?_⟩
    · have q : figM z = "" := V.str.inj (of_decide_eq_true q)
      refine iteT (no _ (Same.refl H2) fun g => ?_)
      have := g.1.l1
      rw [q] at this
      exact absurd this (by decide)
    have f0 : figM z ≠ "" := fun e => q (decide_eq_true (by rw [e]))
    refine ⟨_, rfl, _, rfl, Nat.le_trans lf (by decide), _, _, rfl, rfl, _, rfl, ite2 (fun q => ?_) fun q => ?_⟩
    · have q := of_decide_eq_true q
      exact iteT (no _ (Same.refl H2) fun g => by have := g.1.l2; omega)
    have f60 : (figM z).length ≤ 60 := by
      by_cases c : (figM z).length ≤ 60
      · exact c
      · exact absurd (decide_eq_true (by omega)) q
    have l1 : 1 ≤ (figM z).length := by
      by_cases q : 1 ≤ (figM z).length
      · exact q
      · refine absurd (TL.ext_tl ?_) f0
        rw [TL.len_tl] at q
        have : TL.tl (figM z) = [] := List.length_eq_zero_iff.mp (by omega)
        rw [this]; rfl
    refine ⟨_, rfl, _, rfl, fun D hD => ?_⟩
    refine lc_it walk_str (fun i H' => H' D = some (.lst ((((figM z).cps.toList.take i).map fun c => decide (48 ≤ c) && decide (c ≤ 57)).map V.bl)) ∧ Same H2 H') ⟨upd_same, Same.new hD⟩ (fun _ _ _ _ => trivial) ?_ ?_
    · rintro i x H4 H5 hi ⟨h4, s4⟩ ⟨rfl, c, hc, rfl⟩
      refine ⟨rfl, yes_then ?_⟩
      have hc' : (figM z).cps.toList[i]? = some c := by rw [Array.getElem?_toList]; exact hc
      have hlen : i < (figM z).length := hi
      refine ⟨_, rfl, c, _, rfl, rfl, _, h4, ?_, ?_, s4.mut hD⟩
      · rw [List.length_map, List.length_map]
        exact Nat.lt_of_le_of_lt (List.length_take_le _ _) (Nat.lt_of_lt_of_le (by omega : i < 60) (by decide))
      · rw [upd_same, List.take_add_one, hc', List.map_append, List.map_append, dig_mem]; rfl
    rintro H4 ⟨h4, s4⟩
    have e : digB (figM z) = ((((figM z).cps.toList.take (figM z).cps.size).map fun c => decide (48 ≤ c) && decide (c ≤ 57)).all id) := by
      unfold digB
      rw [List.take_of_length_le (by rw [Array.length_toList]; exact Nat.le_refl _), List.all_map]
      rfl
    cases dg : digB (figM z) with
    | false =>
      rw [dg] at e
      exact ⟨D, _, rfl, .of h4, false, congrArg V.bl e.symm, iteT (no _ s4 fun g => by rw [g.1.dg] at dg; cases dg)⟩
    | true =>
      rw [dg] at e
      refine ⟨D, _, rfl, .of h4, true, congrArg V.bl e.symm, iteF ?_⟩
      have iv : PySem.intText? (figM z) = some (valZ (figM z)) := by rw [val_dig l1 f60 dg, int_dig l1 f60 dg]
      have vs := val_small l1 f60 dg
      have l640 : (figM z).length ≤ 640 := by omega
      refine ⟨_, rfl, _, _, rfl, iv, l640, _, rfl, log2_of (k := 200) (Nat.lt_trans vs (by decide +kernel)) (by decide) (by decide), _, rfl, rfl, _, rfl, ite2 (fun q => ?_) fun q => ?_⟩
      · refine iteT (no _ s4 fun g => ?_)
        have := g.1.dec
        rw [show Str.ofString (toString (valZ (figM z))) = figM z from this] at q
        simp at q
      have ed : decS (valZ (figM z)) = figM z := by
        refine Classical.byContradiction fun c => q ?_
        simp only [Bool.not_eq_true', decide_eq_false_iff_not]
        intro e
        exact c (V.str.inj e)
      refine ⟨_, rfl, rfl, _, rfl, ite2 (fun q => ?_) fun q => ?_⟩
      · have q : z = "-0" := V.str.inj (of_decide_eq_true q)
        exact no _ s4 fun g => g.2 q
      have m0 : z ≠ "-0" := fun e => q (decide_eq_true (by rw [e]))
      obtain ⟨y1, y2⟩ := rd_yes (good_of l1 f60 dg ed) m0
      have kk := k H4 s4
      rw [y1, if_pos rfl, y2] at kk
      refine ⟨_, rfl, 1, rfl, _, rfl, s1, rfl, _, rfl, ite2 (fun q => ?_) fun q => ?_⟩
      · have q : sgn z = "-" := V.str.inj (of_decide_eq_true q)
        rw [if_pos q] at kk
        exact ⟨_, rfl, _, _, rfl, iv, l640, _, _, rfl, rfl, kk⟩
      · have q : ¬ sgn z = "-" := fun e => q (decide_eq_true (congrArg V.str e))
        rw [if_neg q] at kk
        exact ⟨_, rfl, _, _, rfl, iv, l640, kk⟩
end
end Mf
namespace Mf
open PySem L2
section
variable {P : Program} {w : World} {K : PySem.W.Frag} {mg : Str → Option Value} {base : Heap} {C CH CR CI : Addr}
/-! ### _law_read_line -/
def spRdLine (K : PySem.W.Frag) : Sp := fun vs H Q _ => ∃ l : Str, vs = [.str l] ∧ l.length ≤ 1000000 ∧ spc l ≤ 3500 ∧ ∀ v H', Same H H' → EvN K H H' v (rdL l) → Q v H'
abbrev sRead_line : Stmt := top 34
theorem scRead_line : FnScope ["_law_line_here", "_law_words"] ["_law_line_here"] (defScope sRead_line) := ⟨rfl, rfl, rfl, by decide +kernel, rfl, by decide +kernel, by decide +kernel⟩
set_option maxHeartbeats 1000000 in
theorem ok_rdline {f : Addr} {fd : FuncData} (F : Fun K "_law_read_line" "_law_read_line" sRead_line f fd) (mLen : mg "len" = none) (mTuple : mg "tuple" = none) (c_read_number : Cal P w K mg base CX0 1 "_law_read_number" ["_law_text"] spRdNum) : FnOk P w K mg base CX0 2 f fd ["_law_line_here"] (spRdLine K) := by
  refine F.ok scRead_line (fun vs H Q E h => ?_) (fun cdv A outer s H vs Q E hr h => ?_)
  · obtain ⟨l, rfl, _⟩ := h
    rfl
  · obtain ⟨l, rfl, ll, lsp, k⟩ := h
    have hr_read_number := hr
    refine ⟨_, (pss_cons (ps_set (i := 1) scRead_line.nd rfl (by first | exact Or.inl rfl | exact Or.inr rfl) (pe_split (pv 0) pe_str))
      (C8.pss_cut (ps_if (PW.pt (pw_and (pt_cmpR op_eq (pe_ix (ixl K) (pv 1) pe_int (fun _ _ => rfl)) pe_str (nomark _)) (pw_and (pt_cmpR op_eq (pe_callB (k_len K) (by rfl) mLen (by decide +kernel) (pa_cons (pv 1) pa_nil)) pe_int (nomark _)) (pw_and1 (pt_cmpR op_notN (pe_cal c_read_number hr_read_number pass0 (pa_cons (pe_ix (ixl K) (pv 1) pe_int (fun _ _ => rfl)) pa_nil)) pe_non (nomark _))))))
        (pss_one (ps_ret (pe_tup (pa_cons pe_str (pa_cons (pe_ix (ixl K) (pv 1) pe_int (fun _ _ => rfl)) (pa_cons (pe_cal c_read_number hr_read_number pass0 (pa_cons (pe_ix (ixl K) (pv 1) pe_int (fun _ _ => rfl)) pa_nil)) pa_nil)))))) pss_nil)
      (C8.pss_cut (ps_if (PW.pt (pw_and (pt_cmpR op_eq (pe_ix (ixl K) (pv 1) pe_int (fun _ _ => rfl)) pe_str (nomark _)) (pw_and1 (pt_cmpR op_eq (pe_callB (k_len K) (by rfl) mLen (by decide +kernel) (pa_cons (pv 1) pa_nil)) pe_int (nomark _)))))
        (pss_one (ps_ret (pe_tup (pa_cons pe_str (pa_cons (pe_ix (ixl K) (pv 1) pe_int (fun _ _ => rfl)) (pa_cons (pe_tup pa_nil) pa_nil)))))) pss_nil)
      (C8.pss_cut (ps_if (PW.pt (pw_and (pt_cmpR op_eq (pe_ix (ixl K) (pv 1) pe_int (fun _ _ => rfl)) pe_str (nomark _)) (pw_and (pt_cmpR op_gt (pe_callB (k_len K) (by rfl) mLen (by decide +kernel) (pa_cons (pv 1) pa_nil)) pe_int (nomark _)) (pw_and1 (pt_cmpR op_eq (pe_ix (ixl K) (pv 1) pe_int (fun _ _ => rfl)) pe_str (nomark _))))))
        (pss_one (ps_ret (pe_tup (pa_cons pe_str (pa_cons (pe_ix (ixl K) (pv 1) pe_int (fun _ _ => rfl)) (pa_cons (pe_callTy (k_tuple K) (by rfl) mTuple (by decide +kernel) (pa_cons (pe_slice sl_list (pv 1) (po_some pe_int) po_none) pa_nil)) pa_nil)))))) pss_nil)
      (pss_one (ps_ret (pe_tup pa_nil))))))), ?_⟩
    obtain ⟨q1, q2, q3⟩ := split_sum l (" " : Str) sp_ne (by decide +kernel)
    have big : (16777000 : Nat) < sizeLine := by decide
    have wsp := split_spc l
    refine ⟨_, rfl, ⟨_, rfl⟩, _, _, rfl, rfl, (by decide +kernel), by omega, fun L nL => ?_⟩
    unfold rdL at k
    cases hsp : Txt.split l (" " : Str) with
    | nil => exact absurd hsp q3
    | cons kd ws =>
      rw [hsp] at k q1 q2 wsp
      rw [List.length_cons] at wsp
      rw [List.map_cons, List.sum_cons] at q1
      have s2 := Same.new (o := .lst ((kd :: ws).map V.str)) nL
      have hW : (upd H L (.lst ((kd :: ws).map V.str))) L = some (.lst ((kd :: ws).map V.str)) := upd_same
      generalize upd H L (.lst ((kd :: ws).map V.str)) = H2 at s2 hW ⊢
      have at_ : ∀ i, i < ws.length → atI ((kd :: ws).map V.str) ((i + 1 : Nat) : Int) = some (.str (ws.getD i "")) := fun i hi => atI_get2 (ws := kd :: ws) (i := i + 1) (by rw [List.length_cons]; omega)
      have at0 : atI ((kd :: ws).map V.str) (0 : Int) = some (.str kd) := atI_get2 (ws := kd :: ws) (i := 0) (by rw [List.length_cons]; omega)
      have mal : evW Fd.tp (kd :: ws) = ⟨false, []⟩ → ∀ H3 t, Same H H3 → H3 t = none → Q (.ref t) (upd H3 t (.tup [])) := fun e H3 t s3 nt => k _ _ (s3.trans (Same.new nt)) (by rw [e]; exact ev_new rfl (.of upd_same) .nil)
      have lenq : ∀ {n : Nat}, ¬ (decide (V.int ((((kd :: ws).map V.str).length : Nat) : Int) = V.int (n : Nat)) = true) → ws.length + 1 ≠ n := fun q e => q (decide_eq_true (by rw [List.length_map, List.length_cons, e]))
      have leny : ∀ {n : Nat}, (decide (V.int ((((kd :: ws).map V.str).length : Nat) : Int) = V.int (n : Nat)) = true) → ws.length + 1 = n := fun q => by
        have := V.int.inj (of_decide_eq_true q)
        rw [List.length_map, List.length_cons] at this; omega
      have sr : ("set" : Str) ≠ ("run" : Str) := by decide +kernel
      refine ⟨fun σ' H' => σ' = [some (.str l), some (.ref L)] ∧ Same H H' ∧ H' L = some (.lst ((kd :: ws).map V.str)) ∧ ¬ (kd = ("set" : Str) ∧ ws.length = 2 ∧ numT (ws.getD 1 "") = true), ?_, ?_⟩
      · refine ⟨_, rfl, L, _, (0 : Int), _, rfl, rfl, .of hW, at0, rfl, _, rfl, ite2 (fun q => ?_) fun q => ?_⟩
        · have q : kd = ("set" : Str) := V.str.inj (of_decide_eq_true q)
          subst q
          refine ⟨_, rfl, L, _, rfl, .inl (.of hW), rfl, _, rfl, ite2 (fun q => ?_) fun q => ?_⟩
          · have q : ws.length = 2 := by have := leny (n := 3) q; omega
            have l2 : (ws.getD 1 "").length ≤ 1000000 := by
              rw [List.getD_eq_getElem?_getD, List.getElem?_eq_getElem (by omega)]
              have := le_sum (List.getElem_mem (by omega : 1 < ws.length))
              show (ws[1]).length ≤ _
              omega
            refine ⟨_, rfl, L, _, ((1 + 1 : Nat) : Int), _, rfl, rfl, .of hW, at_ 1 (by omega), _, rfl, l2, fun H3 s3 => ?_⟩
            have h3 := s3 _ _ hW
            cases nw : numT (ws.getD 1 "") with
            | true =>
              rw [if_pos rfl]
              refine ⟨rfl, _, rfl, ite2 (fun _ => ?_) fun q => absurd rfl q⟩
              refine ⟨_, rfl, L, _, ((0 + 1 : Nat) : Int), _, rfl, rfl, .of h3, at_ 0 (by omega), _, rfl, L, _, ((1 + 1 : Nat) : Int), _, rfl, rfl, .of h3, at_ 1 (by omega), _, rfl, l2, fun H4 s4 => ?_⟩
              rw [nw, if_pos rfl]
              refine ⟨(by show 3 ≤ sizeLine; decide), fun t nt => ?_⟩
              refine k _ _ (((s2.trans s3).trans s4).trans (Same.new nt)) ?_
              rw [evW_set q nw]
              exact ev_new rfl (.of upd_same) (.cons ⟨rfl, fun _ q => nomatch q⟩ (.cons ⟨rfl, fun _ q => nomatch q⟩ (.cons ⟨rfl, fun _ q => nomatch q⟩ .nil)))
            | false =>
              rw [if_neg (by simp)]
              exact ⟨rfl, _, rfl, ite2 (fun q => absurd q (by simp)) fun _ => ⟨rfl, s2.trans s3, h3, fun z => by cases z.2.2⟩⟩
          · have q := lenq (n := 3) q
            exact ⟨rfl, s2, hW, fun z => by omega⟩
        · have q : ¬ kd = ("set" : Str) := fun e => q (decide_eq_true (congrArg V.str e))
          exact ⟨rfl, s2, hW, fun z => q z.1⟩
      clear s2 hW
      rintro σ H2 ⟨rfl, s2, hW, n1⟩
      refine ⟨fun σ' H' => σ' = [some (.str l), some (.ref L)] ∧ H' = H2 ∧ ¬ (kd = ("run" : Str) ∧ ws.length = 1), ?_, ?_⟩
      · refine ⟨_, rfl, L, _, (0 : Int), _, rfl, rfl, .of hW, at0, rfl, _, rfl, ite2 (fun q => ?_) fun q => ?_⟩
        · have q : kd = ("run" : Str) := V.str.inj (of_decide_eq_true q)
          subst q
          refine ⟨_, rfl, L, _, rfl, .inl (.of hW), rfl, _, rfl, ite2 (fun q => ?_) fun q => ?_⟩
          · have q : ws.length = 1 := by have := leny (n := 2) q; omega
            refine ⟨_, rfl, L, _, ((0 + 1 : Nat) : Int), _, rfl, rfl, .of hW, at_ 0 (by omega), (by show 0 ≤ sizeLine; decide), fun t0 nt0 => ⟨(by show 3 ≤ sizeLine; decide), fun t nt => ?_⟩⟩
            refine k _ _ ((s2.trans (Same.new nt0)).trans (Same.new nt)) ?_
            rw [evW_run q]
            exact ev_new rfl (.of upd_same) (.cons ⟨rfl, fun _ q => nomatch q⟩ (.cons ⟨rfl, fun _ q => nomatch q⟩ (.cons ⟨⟨t0, rfl, (Same.new nt) _ _ upd_same⟩, fun _ q => nomatch q⟩ .nil)))
          · have q := lenq (n := 2) q
            exact ⟨rfl, rfl, fun z => by omega⟩
        · have q : ¬ kd = ("run" : Str) := fun e => q (decide_eq_true (congrArg V.str e))
          exact ⟨rfl, rfl, fun z => q z.1⟩
      rintro σ H3 ⟨rfl, rfl, n2⟩
      refine ⟨fun σ' H' => σ' = [some (.str l), some (.ref L)] ∧ H' = H3 ∧ ¬ (kd = ("run" : Str) ∧ 2 < ws.length ∧ ws.getD 1 "" = ("broken" : Str)), ?_, ?_⟩
      · refine ⟨_, rfl, L, _, (0 : Int), _, rfl, rfl, .of hW, at0, rfl, _, rfl, ite2 (fun q => ?_) fun q => ?_⟩
        · have q : kd = ("run" : Str) := V.str.inj (of_decide_eq_true q)
          subst q
          refine ⟨_, rfl, L, _, rfl, .inl (.of hW), _, _, rfl, rfl, _, rfl, ite2 (fun q => ?_) fun q => ?_⟩
          · have q : 2 < ws.length := by
              have := of_decide_eq_true q
              rw [List.length_map, List.length_cons] at this; omega
            refine ⟨_, rfl, L, _, ((1 + 1 : Nat) : Int), _, rfl, rfl, .of hW, at_ 1 (by omega), rfl, _, rfl, ite2 (fun qb => ?_) fun qb => ?_⟩
            · have qb : ws.getD 1 "" = ("broken" : Str) := V.str.inj (of_decide_eq_true qb)
              refine ⟨_, rfl, L, _, ((0 + 1 : Nat) : Int), _, rfl, rfl, .of hW, at_ 0 (by omega), _, rfl, 3, rfl, L, _, rfl, .inl (.of hW), fun t0 nt0 => ?_⟩
              have ec : cutV (((("run" : Str) :: ws).map V.str)) (some 3) none = (ws.drop 2).map V.str := (cut_drop _ 3).trans (by rw [List.map_drop]; rfl)
              rw [ec]
              refine ⟨t0, _, rfl, .inl ⟨.of upd_same, fun u nu => ⟨(by show 3 ≤ sizeLine; decide), fun t nt => ?_⟩⟩⟩
              refine k _ _ (((s2.trans (Same.new nt0)).trans (Same.new nu)).trans (Same.new nt)) ?_
              rw [evW_broken q qb]
              exact ev_new rfl (.of upd_same) (.cons ⟨rfl, fun _ q => nomatch q⟩ (.cons ⟨rfl, fun _ q => nomatch q⟩ (.cons ⟨⟨u, rfl, (Same.new nt) _ _ upd_same⟩, fun _ q => nomatch q⟩ .nil)))
            · have qb : ws.getD 1 "" ≠ ("broken" : Str) := fun e => qb (decide_eq_true (congrArg V.str e))
              exact ⟨rfl, rfl, fun z => qb z.2.2⟩
          · have q : ¬ 2 < ws.length := fun e => q (decide_eq_true (by rw [List.length_map, List.length_cons]; omega))
            exact ⟨rfl, rfl, fun z => q z.2.1⟩
        · have q : ¬ kd = ("run" : Str) := fun e => q (decide_eq_true (congrArg V.str e))
          exact ⟨rfl, rfl, fun z => q z.1⟩
      rintro σ H4 ⟨rfl, rfl, n3⟩
      exact ⟨(by show 0 ≤ sizeLine; decide), fun t nt => mal (evW_mal n2 n3 n1) _ t s2 nt⟩
end
end Mf
namespace Mf
open PySem L2
/-! ### displays of fields and events -/
def Pur (t : TA) (σ : L2.St) (zs : List Str) : Prop := ∀ H Q, Q (zs.map V.str) H → t σ H Q
theorem pur_nil {σ : L2.St} : Pur tNil σ [] := fun _ _ h => h
theorem pur_cons {t : TA} {σ : L2.St} {z : Str} {zs : List Str} (r : Pur t σ zs) : Pur (tCons (tC (.str z)) t) σ (z :: zs) := fun H _ q => r H _ q
def Fld1 (te : TE) (σ : L2.St) (m : Fd) : Prop := ∀ (H : Hp) (Q : VK), (∀ v H', Same H H' → FdA H' v m → Q v H') → te σ H Q
def Flds (t : TA) (σ : L2.St) (ms : List Fd) : Prop := ∀ (H : Hp) (Q : List V → Hp → Prop), (∀ vs H', Same H H' → Paired (FdA H') vs ms → Q vs H') → t σ H Q
theorem flds_nil {σ : L2.St} : Flds tNil σ [] := fun H _ k => k [] H (Same.refl H) .nil
theorem flds_cons {te : TE} {t : TA} {σ : L2.St} {m : Fd} {ms : List Fd} (h : Fld1 te σ m) (r : Flds t σ ms) : Flds (tCons te t) σ (m :: ms) := fun H _ k =>
  h H _ fun v H1 s1 iv => r H1 _ fun vs H2 s2 p => k (v :: vs) H2 (s1.trans s2) (.cons (iv.same s2) p)
theorem fS {σ : L2.St} (z : Str) : Fld1 (tC (.str z)) σ (.s z) := fun H _ k => k _ H (Same.refl H) rfl
theorem fI {σ : L2.St} (n : Int) : Fld1 (tC (.int n)) σ (.i n) := fun H _ k => k _ H (Same.refl H) rfl
theorem fB {σ : L2.St} (b : Bool) : Fld1 (tC (.bl b)) σ (.b b) := fun H _ k => k _ H (Same.refl H) rfl
theorem fT {t : TA} {σ : L2.St} {zs : List Str} (h : Pur t σ zs) (l : zs.length ≤ 100) : Fld1 (tTup t) σ (.tp zs) := fun H _ k =>
  h H _ ⟨by rw [List.length_map]; exact Nat.le_trans l (by decide), fun p np => k (.ref p) _ (Same.new np) ⟨p, rfl, upd_same⟩⟩
def noLs : Fd → Bool
  | .ls _ => false
  | _ => true
theorem noLs_of {ms : List Fd} (h : ms.all noLs = true) : ∀ zs, Fd.ls zs ∉ ms := fun zs hz => by
  have := List.all_eq_true.mp h _ hz
  cases this
def Evt1 (K : PySem.W.Frag) (te : TE) (σ : L2.St) (e : Ev) : Prop := ∀ (H0 H : Hp) (Q : VK), Same H0 H → (∀ v H', Same H H' → EvN K H0 H' v e → Q v H') → te σ H Q
def Evts (K : PySem.W.Frag) (t : TA) (σ : L2.St) (es : List Ev) : Prop := ∀ (H0 H : Hp) (Q : List V → Hp → Prop), Same H0 H → (∀ vs H', Same H H' → Paired (EvN K H0 H') vs es → Q vs H') → t σ H Q
theorem evts_nil {K : PySem.W.Frag} {σ : L2.St} : Evts K tNil σ [] := fun _ H _ _ k => k [] H (Same.refl H) .nil
theorem evts_cons {K : PySem.W.Frag} {te : TE} {t : TA} {σ : L2.St} {e : Ev} {es : List Ev} (h : Evt1 K te σ e) (r : Evts K t σ es) : Evts K (tCons te t) σ (e :: es) := fun H0 H _ s k =>
  h H0 H _ s fun v H1 s1 iv => r H0 H1 _ (s.trans s1) fun vs H2 s2 p => k (v :: vs) H2 (s1.trans s2) (.cons (iv.same s2) p)
theorem eT {K : PySem.W.Frag} {t : TA} {σ : L2.St} {ms : List Fd} (h : Flds t σ ms) (l : ms.length ≤ 100) (n : ms.all noLs = true) : Evt1 K (tTup t) σ ⟨false, ms⟩ := fun H0 H _ s k =>
  h H _ fun vs H1 s1 p => ⟨by rw [Paired.length p]; exact Nat.le_trans l (by decide), fun a na => k (.ref a) _ (s1.trans (Same.new na)) (ev_new rfl (.of upd_same) (paired_ix (Paired.length p) fun i v m hv hm => by
    obtain ⟨m', hm', q⟩ := paired_get p hv
    rw [hm] at hm'
    cases hm'
    refine ⟨q.same (Same.new na), fun zs em => ?_⟩
    subst em
    exact absurd (List.mem_of_getElem? hm) (noLs_of n zs)))⟩
theorem eL {K : PySem.W.Frag} {t : TA} {σ : L2.St} {ms : List Fd} (h : Flds t σ ms) (l : ms.length ≤ 100) (n : ms.all noLs = true) : Evt1 K (tLst t) σ ⟨true, ms⟩ := fun H0 H _ s k =>
  h H _ fun vs H1 s1 p => ⟨by rw [Paired.length p]; exact Nat.le_trans l (by decide), fun a na => k (.ref a) _ (s1.trans (Same.new na)) fun B hB => ⟨a, vs, rfl, fun _ => ⟨upd_same, fun ba => hB a ba (s.free (s1.free na))⟩, fun q => (by cases q), paired_ix (Paired.length p) fun i v m hv hm => by
    obtain ⟨m', hm', q⟩ := paired_get p hv
    rw [hm] at hm'
    cases hm'
    refine ⟨q.same (Same.new na), fun zs em => ?_⟩
    subst em
    exact absurd (List.mem_of_getElem? hm) (noLs_of n zs)⟩⟩
theorem evtL {K : PySem.W.Frag} {t : TA} {σ : L2.St} {es : List Ev} {H0 H : Hp} {Q : VK} (b : Evts K t σ es) (l : es.length ≤ 100) (s : Same H0 H) (k : ∀ p vs H', H p = none → Same H H' → Paired (EvN K H0 H') vs es → H' p = some (.lst vs) → Q (.ref p) H') : tLst t σ H Q :=
  b H0 H _ s fun vs H1 s1 p => ⟨by rw [Paired.length p]; exact Nat.le_trans l (by decide), fun a na => k a vs _ (s1.free na) (s1.trans (Same.new na)) (paired_same p fun _ _ q => q.same (Same.new na)) upd_same⟩
theorem evtSeq {K : PySem.W.Frag} {t : TA} {g : TG} {rest : TS} {D : Ends} {σ : L2.St} {es : List Ev} {H0 H : Hp} (b : Evts K t σ es) (l : es.length ≤ 100) (s : Same H0 H) (k : ∀ p vs H', H p = none → Same H H' → Paired (EvN K H0 H') vs es → H' p = some (.lst vs) → g (.ref p) σ H' (rest D)) : tSeq (tAsg (tLst t) g) rest D σ H := by
  unfold tSeq tAsg
  exact evtL b l s k
theorem evtCat {K : PySem.W.Frag} {t : TA} {g : TG} {rest : TS} {D : Ends} {σ : L2.St} {es : List Ev} {H0 H : Hp} {i : Nat} {L : Addr} {xs : List V} (hv : σ[i]? = some (some (.ref L))) (hL : H L = some (.lst xs)) (lx : xs.length ≤ 100) (b : Evts K t σ es) (l : es.length ≤ 100) (s : Same H0 H)
    (k : ∀ p vs H', H p = none → Same H H' → Paired (EvN K H0 H') vs es → H' p = some (.lst (xs ++ vs)) → g (.ref p) σ H' (rest D)) : tSeq (tAsg (tOp rCat (tVar i) (tLst t)) g) rest D σ H := by
  refine ⟨_, hv, evtL b l s fun p vs H' np s' pl hp => ?_⟩
  have lv := Paired.length pl
  refine ⟨L, p, _, _, rfl, rfl, s' _ _ hL, hp, Nat.le_trans (by omega : _ ≤ 200) (by decide), fun q nq => ?_⟩
  exact k q vs _ (s'.free nq) (s'.trans (Same.new nq)) (paired_same pl fun _ _ q => q.same (Same.new nq)) upd_same
theorem three {te : TE} {σ : L2.St} {m : Fd} {a b : Str} (h : Fld1 te σ m) : Flds (tCons (tC (.str a)) (tCons (tC (.str b)) (tCons te tNil))) σ [.s a, .s b, m] := flds_cons (fS _) (flds_cons (fS _) (flds_cons h flds_nil))
/-! ### events that are right for the law's own checks -/
def fdOkB : Fd → Bool
  | .tp zs => decide (zs.length ≤ 3600) && zs.all fun z => decide (z.length ≤ 1000000)
  | .ls zs => decide (zs.length ≤ 3600) && zs.all fun z => decide (z.length ≤ 1000000)
  | _ => true
def isPlB : Fd → Bool
  | .i _ => false
  | .b _ => false
  | _ => true
def isNuB : Fd → Bool
  | .i _ => true
  | .b _ => true
  | _ => false
def thB : List Fd → Bool
  | [.s k, .s n, m] => decide (n.length ≤ 1000000) && fdOkB m && (!decide (k = ("run" : Str)) || isPlB m) && (!decide (k = ("set" : Str)) || isNuB m)
  | _ => false
def evOkB (e : Ev) : Bool := e.fs.all noLs && (e.lst || decide (e.fs.length ≠ 3) || thB e.fs)
theorem fdOk_of {m : Fd} (h : fdOkB m = true) : FdOk m := by
  cases m with
  | tp zs =>
    obtain ⟨h1, h2⟩ := Bool.and_eq_true_iff.mp h
    exact ⟨of_decide_eq_true h1, fun z hz => of_decide_eq_true (List.all_eq_true.mp h2 z hz)⟩
  | ls zs =>
    obtain ⟨h1, h2⟩ := Bool.and_eq_true_iff.mp h
    exact ⟨of_decide_eq_true h1, fun z hz => of_decide_eq_true (List.all_eq_true.mp h2 z hz)⟩
  | s z => trivial
  | i z => trivial
  | b z => trivial
theorem isPl_of {m : Fd} (h : isPlB m = true) : isPl m := by
  cases m with
  | i z => cases h
  | b z => cases h
  | _ => trivial
theorem isNu_of {m : Fd} (h : isNuB m = true) : isNu m := by
  cases m with
  | i z => trivial
  | b z => trivial
  | _ => cases h
theorem evOk_of {e : Ev} (h : evOkB e = true) : EvOk e ∧ NoLs e := by
  obtain ⟨h1, h2⟩ := Bool.and_eq_true_iff.mp h
  refine ⟨fun el e3 => ?_, noLs_of h1⟩
  rcases Bool.or_eq_true_iff.mp h2 with h2 | h2
  · rcases Bool.or_eq_true_iff.mp h2 with h2 | h2
    · rw [el] at h2; cases h2
    · exact absurd e3 (of_decide_eq_true h2)
  · unfold thB at h2
    split at h2
    · rename_i k n m q
      obtain ⟨h2, q4⟩ := Bool.and_eq_true_iff.mp h2
      obtain ⟨h2, q3⟩ := Bool.and_eq_true_iff.mp h2
      obtain ⟨q1, q2⟩ := Bool.and_eq_true_iff.mp h2
      refine ⟨k, n, m, q, of_decide_eq_true q1, fdOk_of q2, fun e => ?_, fun e => ?_⟩
      · rw [decide_eq_true e] at q3; exact isPl_of (by simpa using q3)
      · rw [decide_eq_true e] at q4; exact isNu_of (by simpa using q4)
    · cases h2
theorem evAll {es : List Ev} (h : es.all evOkB = true) : ∀ e ∈ es, EvOk e ∧ NoLs e := fun e he => evOk_of (List.all_eq_true.mp h e he)
theorem poolN_app {K : PySem.W.Frag} {H0 H : Hp} {vs ws : List V} {os ps : List Ev} (p : Paired (EvN K H0 H) vs os) (q : Paired (EvN K H0 H) ws ps) : Paired (EvN K H0 H) (vs ++ ws) (os ++ ps) := by
  induction p with
  | nil => exact q
  | cons a _ ih => exact .cons a ih
section
variable {P : Program} {w : World} {K : PySem.W.Frag} {mg : Str → Option Value} {base : Heap} {C CH CR CI : Addr}
/-! ### _law_odd -/
def spOddE (K : PySem.W.Frag) : Sp := fun vs H Q _ => ∃ (a : Addr) (n : Nat), vs = [.ref a] ∧ Src H a (n + 1) ∧ ∀ v e H', (∀ B : Addr → Prop, B a → (∀ c, B c → H c ≠ none) → EvF K H' B v e) → EvOk e → NoLs e → Kp a H H' → Src H' a n → Q v H'
abbrev sOdd : Stmt := top 31
theorem scOdd : FnScope ["_law_source_here", "_law_odd_here"] ["_law_source_here"] (defScope sOdd) := ⟨rfl, rfl, rfl, by decide +kernel, rfl, by decide +kernel, by decide +kernel⟩
set_option maxHeartbeats 1000000 in
theorem ok_odd {f : Addr} {fd : FuncData} (F : Fun K "_law_odd" "_law_odd" sOdd f fd) (mLen : mg "len" = none) (c_draw : Cal P w K mg base CX0 1 "_law_draw" ["_law_source_here", "_law_many"] spDraw) : FnOk P w K mg base CX0 2 f fd ["_law_source_here"] (spOddE K) := by
  refine F.ok scOdd (fun vs H Q E h => ?_) (fun cdv A outer s H vs Q E hr h => ?_)
  · obtain ⟨a, n, rfl, _⟩ := h
    rfl
  · obtain ⟨a, n, rfl, S, k⟩ := h
    have hr_draw := hr
    refine ⟨_, (pss_cons (ps_set (i := 1) scOdd.nd rfl (by first | exact Or.inl rfl | exact Or.inr rfl) (pe_lst (pa_cons (pe_tup pa_nil) (pa_cons (pe_tup (pa_cons pe_str (pa_cons pe_str pa_nil))) (pa_cons (pe_tup (pa_cons pe_str (pa_cons pe_str (pa_cons (pe_tup pa_nil) pa_nil)))) (pa_cons (pe_tup (pa_cons pe_str (pa_cons pe_str (pa_cons (pe_tup (pa_cons pe_str (pa_cons pe_str pa_nil))) pa_nil)))) (pa_cons (pe_tup (pa_cons pe_str (pa_cons pe_str (pa_cons (pe_op op_pow pe_int pe_int) pa_nil)))) (pa_cons (pe_tup (pa_cons pe_str (pa_cons pe_str (pa_cons (pe_tup pa_nil) pa_nil)))) pa_nil))))))))
      (pss_cons (ps_set (i := 1) scOdd.nd rfl (by first | exact Or.inl rfl | exact Or.inr rfl) (pe_op op_cat (pv 1) (pe_lst (pa_cons (pe_tup (pa_cons pe_str (pa_cons pe_str pa_nil))) (pa_cons (pe_tup (pa_cons pe_str (pa_cons pe_str (pa_cons pe_int pa_nil)))) (pa_cons (pe_tup (pa_cons pe_str (pa_cons pe_str (pa_cons (pe_tup pa_nil) (pa_cons (pe_tup pa_nil) pa_nil))))) (pa_cons (pe_tup (pa_cons pe_str (pa_cons pe_str (pa_cons (pe_op op_sub pe_int (pe_op op_pow pe_int pe_int)) pa_nil)))) pa_nil)))))))
      (pss_cons (ps_set (i := 1) scOdd.nd rfl (by first | exact Or.inl rfl | exact Or.inr rfl) (pe_op op_cat (pv 1) (pe_lst (pa_cons (pe_tup (pa_cons pe_str (pa_cons pe_str (pa_cons pe_int pa_nil)))) (pa_cons (pe_tup (pa_cons pe_str (pa_cons pe_str (pa_cons (pe_tup (pa_cons pe_str pa_nil)) pa_nil)))) (pa_cons (pe_tup (pa_cons pe_str (pa_cons pe_str (pa_cons pe_bl pa_nil)))) (pa_cons (pe_tup (pa_cons pe_str (pa_cons pe_str (pa_cons pe_str pa_nil)))) (pa_cons (pe_lst (pa_cons pe_str (pa_cons pe_str (pa_cons (pe_tup pa_nil) pa_nil)))) pa_nil))))))))
      (pss_one (ps_ret (pe_ix (ixl K) (pv 1) (pe_cal c_draw hr_draw pass0 (pa_cons (pv 0) (pa_cons (pe_callB (k_len K) (by rfl) mLen (by decide +kernel) (pa_cons (pv 1) pa_nil)) pa_nil))) (fun _ _ => rfl))))))), ?_⟩
    have pw : ∀ σ : L2.St, Fld1 (tOp (rI CPow fun i j => V.int (i ^ j.toNat)) (tC (.int 10)) (tC (.int 60))) σ (.i (10 ^ (60 : Int).toNat)) := fun σ H Q k => ⟨_, _, rfl, rfl, ⟨by decide, by decide, by decide⟩, k _ H (Same.refl H) rfl⟩
    have pm : ∀ σ : L2.St, Fld1 (tOp (rI0 fun i j => V.int (i - j)) (tC (.int 0)) (tOp (rI CPow fun i j => V.int (i ^ j.toNat)) (tC (.int 10)) (tC (.int 60)))) σ (.i (0 - 10 ^ (60 : Int).toNat)) := fun σ H Q k => ⟨_, _, rfl, rfl, ⟨by decide, by decide, by decide⟩, _, _, rfl, rfl, k _ H (Same.refl H) rfl⟩
    have two : ∀ {σ : L2.St} {a b : Str}, Flds (tCons (tC (.str a)) (tCons (tC (.str b)) tNil)) σ [.s a, .s b] := fun {σ a b} => flds_cons (fS _) (flds_cons (fS _) flds_nil)
    have nD : (100 : Nat) < sizeLine := by decide
    refine evtSeq (K := K) (H0 := H) (evts_cons (eT flds_nil (by decide) rfl) (evts_cons (eT two (by show 2 ≤ 100; decide) rfl) (evts_cons (eT (three (fT pur_nil (by decide))) (by show 3 ≤ 100; decide) rfl) (evts_cons (eT (three (fT (pur_cons (pur_cons pur_nil)) (by show 2 ≤ 100; decide))) (by show 3 ≤ 100; decide) rfl) (evts_cons (eT (three (pw _)) (by show 3 ≤ 100; decide) rfl) (evts_cons (eT (three (fT pur_nil (by decide))) (by show 3 ≤ 100; decide) rfl) evts_nil)))))) (by show 6 ≤ 100; decide) (Same.refl H) fun L1 w1 H1 n1 s1 p1 h1 => ?_
    obtain ⟨o1, p1, k1, l1⟩ : ∃ os, Paired (EvN K H H1) w1 os ∧ (∀ o ∈ os, EvOk o ∧ NoLs o) ∧ os.length = 6 := ⟨_, p1, evAll (by kernel_rfl), rfl⟩
    have g1 := (Paired.length p1).trans l1
    show tSeq _ _ _ _ _
    refine evtCat (K := K) rfl h1 (by omega) (evts_cons (eT two (by show 2 ≤ 100; decide) rfl) (evts_cons (eT (three (fI _)) (by show 3 ≤ 100; decide) rfl) (evts_cons (eT (flds_cons (fS _) (flds_cons (fS _) (flds_cons (fT pur_nil (by decide)) (flds_cons (fT pur_nil (by decide)) flds_nil)))) (by show 4 ≤ 100; decide) rfl) (evts_cons (eT (three (pm _)) (by show 3 ≤ 100; decide) rfl) evts_nil)))) (by show 4 ≤ 100; decide) s1 fun L2 w2 H2 n2 s2 p2 h2 => ?_
    obtain ⟨o2, p2, k2, l2⟩ : ∃ os, Paired (EvN K H H2) w2 os ∧ (∀ o ∈ os, EvOk o ∧ NoLs o) ∧ os.length = 4 := ⟨_, p2, evAll (by kernel_rfl), rfl⟩
    have g2 := (Paired.length p2).trans l2
    have t2 := s1.trans s2
    show tSeq _ _ _ _ _
    refine evtCat (K := K) rfl h2 (by rw [List.length_append]; omega) (evts_cons (eT (three (fI _)) (by show 3 ≤ 100; decide) rfl) (evts_cons (eT (three (fT (pur_cons pur_nil) (by show 1 ≤ 100; decide))) (by show 3 ≤ 100; decide) rfl) (evts_cons (eT (three (fB _)) (by show 3 ≤ 100; decide) rfl) (evts_cons (eT (three (fS _)) (by show 3 ≤ 100; decide) rfl) (evts_cons (eL (three (fT pur_nil (by decide))) (by show 3 ≤ 100; decide) rfl) evts_nil))))) (by show 5 ≤ 100; decide) t2 fun L7 w3 H7 n7 s3 p3 h7 => ?_
    obtain ⟨o3, p3, k3, l3⟩ : ∃ os, Paired (EvN K H H7) w3 os ∧ (∀ o ∈ os, EvOk o ∧ NoLs o) ∧ os.length = 5 := ⟨_, p3, evAll (by kernel_rfl), rfl⟩
    have g3 := (Paired.length p3).trans l3
    have t7 := t2.trans s3
    have p15 := poolN_app (poolN_app ((paired_same p1 fun _ _ q => q.same s2) |> fun p => paired_same p fun _ _ q => q.same s3) (paired_same p2 fun _ _ q => q.same s3)) p3
    have gl : ((w1 ++ w2) ++ w3).length = 15 := by rw [List.length_append, List.length_append, g1, g2, g3]
    have ok : ∀ o ∈ (o1 ++ o2) ++ o3, EvOk o ∧ NoLs o := fun o ho => by
      rcases List.mem_append.mp ho with ho | ho
      · rcases List.mem_append.mp ho with ho | ho
        · exact k1 o ho
        · exact k2 o ho
      · exact k3 o ho
    generalize (w1 ++ w2) ++ w3 = wl at h7 p15 gl
    generalize (o1 ++ o2) ++ o3 = ol at p15 ok
    have S7 := S.same t7
    refine ⟨_, rfl, _, rfl, _, rfl, L7, _, rfl, .inl (.of h7), ?_⟩
    rw [gl]
    refine ⟨a, (15 : Int), n, rfl, by decide, by decide, S7, fun v H8 v0 v1 k8 S8 => ?_⟩
    have a7 : L7 ≠ a := fun e => by
      obtain ⟨x, y, z, hg, _⟩ := S7
      rw [e, hg] at h7
      have := congrArg List.length (HO.lst.inj (Option.some.inj h7))
      rw [gl] at this
      simp at this
    obtain ⟨x, hx, ex⟩ := atI_mem (xs := wl) v0 (by rw [gl]; exact v1)
    obtain ⟨i, hi⟩ := List.mem_iff_getElem?.mp hx
    obtain ⟨o, ho, it⟩ := paired_get p15 hi
    refine ⟨L7, _, _, _, rfl, rfl, .of (k8 _ _ a7 h7), ex, ?_⟩
    obtain ⟨q1, q2⟩ := ok o (List.mem_of_getElem? ho)
    exact k x o H8 (fun B ba hB => (it B hB).kp k8 S7 ba) q1 q2 (fun b o ne e => k8 b o ne (t7 b o e)) S8
end
end Mf
namespace Mf
open PySem L2
theorem Kp.free' {a t : Addr} {H H' : Hp} {m : Nat} (x : Kp a H H') (h : H' t = none) (S' : Src H' a m) : H t = none := by
  cases e : H t with
  | none => rfl
  | some o =>
    have q := x t o (S'.ne h) e
    rw [h] at q; cases q
/-- events as the law draws them -/
def GoodE (e : Ev) : Prop := (∃ n x, e = ⟨false, [.s "set", .s n, .i x]⟩ ∧ IsName n ∧ numB x = true) ∨ (∃ n zs, e = ⟨false, [.s "run", .s n, .tp zs]⟩ ∧ IsName n ∧ zs.length ≤ 2 ∧ ∀ z ∈ zs, IsName z)
theorem GoodE.free {e : Ev} (h : GoodE e) : e.lst = false ∧ NoLs e := by
  rcases h with ⟨n, x, rfl, _⟩ | ⟨n, zs, rfl, _⟩
  · exact ⟨rfl, noLs_of rfl⟩
  · exact ⟨rfl, noLs_of rfl⟩
theorem GoodE.ok {e : Ev} (h : GoodE e) : EvOk e := by
  have rs : ("run" : Str) ≠ ("set" : Str) := by decide +kernel
  rcases h with ⟨n, x, rfl, hn, hx⟩ | ⟨n, zs, rfl, hn, l, hz⟩
  · exact fun _ _ => ⟨_, _, _, rfl, Nat.le_trans hn.len (by decide), True.intro, fun e => absurd e.symm rs, fun _ => True.intro⟩
  · exact fun _ _ => ⟨_, _, _, rfl, Nat.le_trans hn.len (by decide), ⟨by omega, fun z h => Nat.le_trans (hz z h).len (by decide)⟩, fun _ => True.intro, fun e => absurd e rs⟩
theorem evF_free {K : PySem.W.Frag} {H : Hp} {v : V} {e : Ev} (x : EvA K H v e) (h : e.lst = false ∧ NoLs e) (B : Addr → Prop) : EvF K H B v e := by
  obtain ⟨t, vs, e1, h1, h2, p⟩ := x
  refine ⟨t, vs, e1, fun q => (by rw [h.1] at q; cases q), h2, paired_ix (Paired.length p) fun i v m hv hm => ?_⟩
  obtain ⟨m', hm', q⟩ := paired_get p hv
  rw [hm] at hm'
  cases hm'
  refine ⟨q, fun zs em => ?_⟩
  subst em
  exact absurd (List.mem_of_getElem? hm) (h.2 zs)
section
variable {P : Program} {w : World} {K : PySem.W.Frag} {mg : Str → Option Value} {base : Heap} {C CH CR CI : Addr}
/-! ### _law_good -/
def spGood (K : PySem.W.Frag) : Sp := fun vs H Q _ => ∃ (a : Addr) (n : Nat), vs = [.ref a] ∧ Src H a (n + 60) ∧ ∀ v e H', EvA K H' v e → GoodE e → Kp a H H' → Src H' a n → Q v H'
abbrev sGood : Stmt := top 30
theorem scGood : FnScope ["_law_source_here", "_law_names_here", "_law_name_here", "_law_step"] ["_law_source_here"] (defScope sGood) := ⟨rfl, rfl, rfl, by decide +kernel, rfl, by decide +kernel, by decide +kernel⟩
set_option maxHeartbeats 1000000 in
theorem ok_good {f : Addr} {fd : FuncData} (F : Fun K "_law_good" "_law_good" sGood f fd) (mRange : mg "range" = none) (mTuple : mg "tuple" = none) (c_draw : Cal P w K mg base CX0 1 "_law_draw" ["_law_source_here", "_law_many"] spDraw) (c_names : Cal P w K mg base CX0 3 "_law_names" ["_law_source_here", "_law_many"] spNames) (c_number : Cal P w K mg base CX0 2 "_law_number" ["_law_source_here"] spLNum) : FnOk P w K mg base CX0 4 f fd ["_law_source_here"] (spGood K) := by
  refine F.ok scGood (fun vs H Q E h => ?_) (fun cdv A outer s H vs Q E hr h => ?_)
  · obtain ⟨a, n, rfl, _⟩ := h
    rfl
  · obtain ⟨a, n, rfl, S, k⟩ := h
    have hr_draw : Room 1 _ := hr.mono (by decide : 1 ≤ 3); have hr_names := hr; have hr_number : Room 2 _ := hr.mono (by decide : 2 ≤ 3)
    refine ⟨_, (pss_cons (ps_set (i := 1) scGood.nd rfl (by first | exact Or.inl rfl | exact Or.inr rfl) (pe_op op_cat (pe_lst (pa_cons pe_str (pa_cons pe_str (pa_cons pe_str pa_nil)))) (pe_cal c_names hr_names pass0 (pa_cons (pv 0) (pa_cons pe_int pa_nil)))))
      (pss_cons (ps_set (i := 2) scGood.nd rfl (by first | exact Or.inl rfl | exact Or.inr rfl) (pe_ix (ixl K) (pv 1) (pe_cal c_draw hr_draw pass0 (pa_cons (pv 0) (pa_cons pe_int pa_nil))) (fun _ _ => rfl)))
      (pss_cons (ps_if (pt_cmpR op_eq (pe_cal c_draw hr_draw pass0 (pa_cons (pv 0) (pa_cons pe_int pa_nil))) pe_int (nomark _))
        (pss_one (ps_ret (pe_tup (pa_cons pe_str (pa_cons (pv 2) (pa_cons (pe_cal c_number hr_number pass0 (pa_cons (pv 0) pa_nil)) pa_nil)))))) pss_nil)
      (pss_one (ps_ret (pe_tup (pa_cons pe_str (pa_cons (pv 2) (pa_cons (pe_callTy (k_tuple K) (by rfl) mTuple (by decide +kernel) (pa_cons (pe_lc (own := [("_law_step", 3)]) (g := (gName 3)) (tt := tYes) rfl scGood.nd (pi_range1 (by rfl) mRange (pa_cons (pe_cal c_draw hr_draw pass0 (pa_cons (pv 0) (pa_cons pe_int pa_nil))) pa_nil)) (blkOk_by (own := [("_law_step", 3)]) (N := ["_law_source_here", "_law_names_here", "_law_name_here", "_law_step"]) (sc := defScope sGood) (by decide +kernel)) (fun _ _ _ _ _ => (pg_name (i := 3) scGood.nd rfl (by first | exact Or.inl rfl | exact Or.inr rfl))) (fun _ _ _ _ _ => pts_nil) (fun _ _ _ _ _ => (pe_ix (ixl K) (pv 1) (pe_cal c_draw hr_draw pass0 (pa_cons (pv 0) (pa_cons pe_int pa_nil))) (fun _ _ => rfl)))) pa_nil)) pa_nil))))))))), ?_⟩
    have sz : (5000 : Nat) < sizeLine := by decide
    refine ⟨(by show 3 ≤ sizeLine; decide), fun l hl => ?_⟩
    have S1 := S.new (o := .lst [.str "run", .str "set", .str "broken"]) hl
    have h1 : (upd H l (.lst [.str "run", .str "set", .str "broken"])) l = some (.lst [.str "run", .str "set", .str "broken"]) := upd_same
    have la : l ≠ a := S.ne hl
    have k1 : Kp a H (upd H l (.lst [.str "run", .str "set", .str "broken"])) := Kp.new hl
    generalize upd H l (.lst [.str "run", .str "set", .str "broken"]) = H1 at S1 h1 k1 ⊢
    refine ⟨_, rfl, a, 2, n + 30, rfl, by decide, S1.mono (by omega), fun p zs H2 lz _ dr np hp k2 S2 => ?_⟩
    refine ⟨l, p, _, _, rfl, rfl, k2 _ _ la h1, hp, Nat.le_trans (by rw [List.length_map]; show 3 + zs.length ≤ 100; omega) (by decide), fun q nq => ?_⟩
    have S3 := S2.new (o := .lst ([.str "run", .str "set", .str "broken"] ++ zs.map V.str)) nq
    have hq : (upd H2 q (.lst ([.str "run", .str "set", .str "broken"] ++ zs.map V.str))) q = some (.lst ((("run" : Str) :: "set" :: "broken" :: zs).map V.str)) := upd_same
    have qa : q ≠ a := S2.ne nq
    have k3 := (k1.trans k2).trans (Kp.new (o := .lst ([.str "run", .str "set", .str "broken"] ++ zs.map V.str)) nq)
    generalize upd H2 q (.lst ([.str "run", .str "set", .str "broken"] ++ zs.map V.str)) = H3 at S3 hq k3 ⊢
    have nm : ∀ z ∈ ("run" : Str) :: "set" :: "broken" :: zs, IsName z := fun z hz => by
      simp only [List.mem_cons] at hz
      rcases hz with rfl | rfl | rfl | hz
      · exact (nameB_iff _).mp (by decide +kernel)
      · exact (nameB_iff _).mp (by decide +kernel)
      · exact (nameB_iff _).mp (by decide +kernel)
      · exact (dr z hz).1
    have l5 : (("run" : Str) :: "set" :: "broken" :: zs).length = 5 := by simp [lz]
    generalize (("run" : Str) :: "set" :: "broken" :: zs) = ns at hq nm l5
    have pk : ∀ {v : Int}, 0 ≤ v → v < 5 → ∃ z, IsName z ∧ atI (ns.map V.str) v = some (.str z) := fun v0 v1 => by
      obtain ⟨x, hx, e⟩ := atI_mem (xs := ns.map V.str) v0 (by rw [List.length_map, l5]; exact v1)
      obtain ⟨z, hz, rfl⟩ := List.mem_map.mp hx
      exact ⟨z, nm z hz, e⟩
    refine ⟨_, rfl, _, rfl, a, 5, n + 29, rfl, by decide, by decide, S3.mono (by omega), fun v H4 v0 v1 k4 S4 => ?_⟩
    obtain ⟨nz, in_, ez⟩ := pk v0 v1
    have hq4 := k4 _ _ qa hq
    refine ⟨q, _, v, _, rfl, rfl, .of hq4, ez, ?_⟩
    refine ⟨_, rfl, a, 3, n + 28, rfl, by decide, by decide, S4, fun u H5 u0 u1 k5 S5 => ?_⟩
    have hq5 := k5 _ _ qa hq4
    have k35 := (k3.trans k4).trans k5
    refine ⟨rfl, _, rfl, ite2 (fun _ => ?_) fun _ => ?_⟩
    · refine ⟨_, rfl, _, rfl, a, n + 1, rfl, S5.mono (by omega), fun x H6 bx k6 S6 => ⟨(by show 3 ≤ sizeLine; decide), fun t nt => ?_⟩⟩
      exact k (.ref t) ⟨false, [.s "set", .s nz, .i x]⟩ _ ⟨t, _, rfl, (fun q => by cases q), fun _ => .of upd_same, .cons rfl (.cons rfl (.cons rfl .nil))⟩ (.inl ⟨nz, x, rfl, in_, bx⟩) ((k35.trans k6).trans (Kp.new nt)) ((S6.mono (by omega)).new nt)
    · refine ⟨_, rfl, _, rfl, a, 3, n + 27, rfl, by decide, by decide, S5, fun m H6 m0 m1 k6 S6 => ?_⟩
      obtain ⟨m, rfl⟩ := Int.eq_ofNat_of_zero_le m0
      have hq6 := k6 _ _ qa hq5
      refine ⟨m, rfl, by omega, by omega, fun D nD => ?_⟩
      have Da : D ≠ a := S6.ne nD
      have qD : q ≠ D := Ne.symm (ne_none nD hq6)
      have nD0 : H D = none := (k35.trans k6).free' nD S6
      refine lc_range (lo := 0) (n := ((m : Nat) : Int).toNat) (fun i H' => ∃ ps : List Str, H' D = some (.lst (ps.map V.str)) ∧ ps.length = i ∧ (∀ z ∈ ps, IsName z) ∧ H' q = some (.lst (ns.map V.str)) ∧ Kp a H H' ∧ Src H' a (n + 20 - i))
        ⟨[], upd_same, rfl, (by simp), (upd_ne qD).trans hq6, (k35.trans k6).trans (Kp.new nD), (S6.new nD).mono (by omega)⟩ ?_ ?_
      · rintro i H7 hi ⟨ps, hD7, lp, ips, hq7, k7, S7⟩
        rw [Int.toNat_natCast] at hi
        refine ⟨rfl, yes_then ?_⟩
        refine ⟨_, rfl, _, rfl, a, 5, n + 20 - (i + 1), rfl, by decide, by decide, S7.mono (by omega), fun y H8 y0 y1 k8 S8 => ?_⟩
        obtain ⟨z, iz, ez⟩ := pk y0 y1
        have hD8 := k8 _ _ Da hD7
        have hq8 := k8 _ _ qa hq7
        refine ⟨q, _, y, _, rfl, rfl, .of hq8, ez, ?_⟩
        refine ⟨_, hD8, by rw [List.length_map]; omega, ps ++ [z], by rw [upd_same, List.map_append]; rfl, by rw [List.length_append, lp]; rfl, fun x hx => ?_, (upd_ne qD).trans hq8, (k7.trans k8).mut nD0, S8.put Da⟩
        rcases List.mem_append.mp hx with h | h
        · exact ips x h
        · rw [List.mem_singleton.mp h]; exact iz
      · rintro H7 ⟨ps, hD7, lp, ips, hq7, k7, S7⟩
        rw [Int.toNat_natCast] at lp
        refine ⟨D, _, rfl, .inl ⟨.of hD7, fun u nu => ⟨(by show 3 ≤ sizeLine; decide), fun t nt => ?_⟩⟩⟩
        exact k (.ref t) ⟨false, [.s "run", .s nz, .tp ps]⟩ _ ⟨t, _, rfl, (fun q => by cases q), fun _ => .of upd_same, .cons rfl (.cons rfl (.cons ⟨u, rfl, (Same.new nt) _ _ upd_same⟩ .nil))⟩ (.inr ⟨nz, ps, rfl, in_, by omega, ips⟩) ((k7.trans (Kp.new nu)).trans (Kp.new nt)) (((S7.mono (by omega)).new nu).new nt)
end
end Mf
namespace Mf
open PySem L2
theorem name_spc {z : Str} (h : IsName z) : spc z = 0 := free_spc fun q => by
  have := (h.2.2 32 q).1
  omega
def evP : Ev := ⟨false, [.s "run", .s "p", .tp []]⟩
section
variable {P : Program} {w : World} {K : PySem.W.Frag} {mg : Str → Option Value} {base : Heap} {C CH CR CI : Addr}
/-! ### _law_line -/
def spLineE (K : PySem.W.Frag) : Sp := fun vs H Q _ => ∃ (v : V) (e : Ev), vs = [v] ∧ EvA K H v e ∧ GoodE e ∧ ∀ z H', Same H H' → z.length ≤ 80 → spc z ≤ 5 → (e = evP → spc z ≤ 2) → Q (.str z) H'
abbrev sLine : Stmt := top 35
theorem scLine : FnScope ["_law_event"] ["_law_event"] (defScope sLine) := ⟨rfl, rfl, rfl, by decide +kernel, rfl, by decide +kernel, by decide +kernel⟩
set_option maxHeartbeats 1000000 in
theorem ok_line {f : Addr} {fd : FuncData} (F : Fun K "_law_line" "_law_line" sLine f fd) (mStr : mg "str" = none) (mLen : mg "len" = none) (mList : mg "list" = none) : FnOk P w K mg base CX0 1 f fd ["_law_event"] (spLineE K) := by
  refine F.ok scLine (fun vs H Q E h => ?_) (fun cdv A outer s H vs Q E hr h => ?_)
  · obtain ⟨v, e, rfl, _⟩ := h
    rfl
  · obtain ⟨v, e, rfl, ⟨t, vs, rfl, hl, ht, pr⟩, ge, k⟩ := h
    refine ⟨_, (pss_cons (ps_if (pt_cmpR op_eq (pe_ix (ixt K) (pv 0) pe_int (fun _ _ => rfl)) pe_str (nomark _))
        (pss_one (ps_ret (pe_op op_add_str (pe_op op_add_str (pe_op op_add_str pe_str (pe_ix (ixt K) (pv 0) pe_int (fun _ _ => rfl))) pe_str) (pe_callTy call_str_int (by rfl) mStr (by decide +kernel) (pa_cons (pe_ix (ixt K) (pv 0) pe_int (fun _ _ => rfl)) pa_nil))))) pss_nil)
      (pss_one (ps_ret (pe_join pe_str (pe_op op_cat (pe_op op_cat (pe_lst (pa_cons pe_str (pa_cons (pe_ix (ixt K) (pv 0) pe_int (fun _ _ => rfl)) pa_nil))) (pe_ifExp (pt_cmpR op_gt (pe_callB (k_len K) (by rfl) mLen (by decide +kernel) (pa_cons (pe_ix (ixt K) (pv 0) pe_int (fun _ _ => rfl)) pa_nil)) pe_int (nomark _)) (pe_lst (pa_cons pe_str pa_nil)) (pe_lst pa_nil))) (pe_callTy (k_list K) (by rfl) mList (by decide +kernel) (pa_cons (pe_ix (ixt K) (pv 0) pe_int (fun _ _ => rfl)) pa_nil))))))), ?_⟩
    rcases ge with ⟨n, x, rfl, hn, hx⟩ | ⟨n, zs, rfl, hn, lz, hz⟩
    · obtain ⟨v3, rfl, f3⟩ := three_of pr
      obtain rfl : v3 = .int x := f3
      have sq : SqT K H t [.str "set", .str n, .int x] := ht rfl
      have n8 := hn.len
      have bx : x.natAbs < 10 ^ 60 := of_decide_eq_true hx
      have ld : (decS x).length ≤ 61 := decS_len (by decide) bx
      have l4 : ("set " : Str).length = 4 := by decide +kernel
      have l1 : (" " : Str).length = 1 := by decide +kernel
      refine ⟨_, rfl, t, _, (0 : Nat), _, rfl, rfl, sq, rfl, rfl, _, rfl, ite2 (fun _ => ?_) fun q => absurd (decide_eq_true rfl) q⟩
      refine ⟨_, rfl, t, _, (1 : Nat), _, rfl, rfl, sq, rfl, ("set " : Str), n, rfl, rfl, Nat.le_trans (by omega : _ ≤ 12) (by decide), _, (" " : Str), rfl, rfl, Nat.le_trans (by rw [app_len]; omega : _ ≤ 13) (by decide), _, rfl, t, _, (2 : Nat), _, rfl, rfl, sq, rfl, _, rfl, log2_of (k := 200) (Nat.lt_trans bx (by decide +kernel)) (by decide) (by decide), _, decS x, rfl, rfl, Nat.le_trans (by rw [app_len, app_len]; omega : _ ≤ 74) (by decide), ?_⟩
      have ns : ¬ (⟨false, [.s "set", .s n, .i x]⟩ : Ev) = evP := fun e => by
        injection e with _ e
        injection e with e _
        injection e with e
        exact absurd e (by decide +kernel)
      refine k _ H (Same.refl H) (by rw [app_len, app_len, app_len]; omega) ?_ fun e => absurd e ns
      rw [app_spc, app_spc, app_spc, name_spc hn, free_spc (dec_free (.inl (by decide))), show spc ("set " : Str) = 1 by decide +kernel, show spc (" " : Str) = 1 by decide +kernel]
      decide
    · obtain ⟨v3, rfl, f3⟩ := three_of pr
      obtain ⟨c, rfl, hc⟩ := f3
      have sq : SqT K H t [.str "run", .str n, .ref c] := ht rfl
      have n8 := hn.len
      have ne : ("run" : Str) ≠ ("set" : Str) := by decide +kernel
      refine ⟨_, rfl, t, _, (0 : Nat), _, rfl, rfl, sq, rfl, rfl, _, rfl, ite2 (fun q => absurd (V.str.inj (of_decide_eq_true q)) ne) fun _ => ?_⟩
      have parts : ∀ bs : List Str, (∀ z ∈ bs, z.length ≤ 8 ∧ spc z = 0) → bs.length ≤ 1 → ∀ z ∈ ([("run" : Str), n] ++ bs) ++ zs, z.length ≤ 8 ∧ spc z = 0 := fun bs hb _ z hz' => by
        rcases List.mem_append.mp hz' with h | h
        · rcases List.mem_append.mp h with h | h
          · simp only [List.mem_cons, List.not_mem_nil, or_false] at h
            rcases h with rfl | rfl
            · exact ⟨by decide +kernel, by decide +kernel⟩
            · exact ⟨n8, name_spc hn⟩
          · exact hb z h
        · exact ⟨(hz z h).len, name_spc (hz z h)⟩
      have fin : ∀ (l5 : Addr) (bs : List Str) (H5 : Hp), Same H H5 → H5 l5 = some (.lst ((([("run" : Str), n] ++ bs) ++ zs).map V.str)) → (∀ z ∈ bs, z.length ≤ 8 ∧ spc z = 0) → bs.length ≤ min 1 zs.length → ∃ a p ys, V.str (" " : Str) = V.str a ∧ [V.ref l5] = [V.ref p] ∧ (SqL K H5 p (ys.map V.str) ∨ SqT K H5 p (ys.map V.str)) ∧ (ys.map (·.length)).sum + ys.length * a.length ≤ sizeLine ∧ Q (.str (Txt.join a ys)) H5 := fun l5 bs H5 s5 h5 hb lb => by
        have pp := parts bs hb (by omega)
        have e0 : (⟨false, [.s "run", .s n, .tp zs]⟩ : Ev) = evP → zs.length = 0 := fun e => by
          injection e with _ e
          injection e with _ e
          injection e with _ e
          injection e with e _
          injection e with e
          rw [e]; rfl
        have l2 : (([("run" : Str), n] ++ bs) ++ zs).length ≤ 2 + min 1 zs.length + zs.length := by rw [List.length_append, List.length_append]; show 2 + _ + _ ≤ _; omega
        have ll : (([("run" : Str), n] ++ bs) ++ zs).length ≤ 5 := by rw [List.length_append, List.length_append]; show 2 + _ + _ ≤ 5; omega
        generalize ([("run" : Str), n] ++ bs) ++ zs = ys at h5 pp ll l2
        have sm : ∀ ys : List Str, (∀ z ∈ ys, z.length ≤ 8 ∧ spc z = 0) → (ys.map (·.length)).sum ≤ 8 * ys.length := fun ys h => by
          induction ys with
          | nil => exact Nat.zero_le _
          | cons y ys ih =>
            have := (h y List.mem_cons_self).1
            have := ih fun z hz => h z (List.mem_cons_of_mem _ hz)
            rw [List.map_cons, List.sum_cons, List.length_cons]
            omega
        have e1 : (" " : Str).length = 1 := by decide +kernel
        have s8 := sm ys pp
        have j1 := join_len (" " : Str) ys
        have j2 := join_spc (" " : Str) ys
        rw [e1] at j1
        rw [sum_zero fun z hz => (pp z hz).2, show spc (" " : Str) = 1 by decide +kernel] at j2
        exact ⟨_, l5, ys, rfl, rfl, .inl (.of h5), Nat.le_trans (by rw [e1]; omega : _ ≤ 100) (by decide), k _ H5 s5 (by omega) (by omega) fun e => by have := e0 e; omega⟩
      refine ⟨⟨_, rfl⟩, _, rfl, t, _, (1 : Nat), _, rfl, rfl, sq, rfl, (by show 2 ≤ sizeLine; decide), fun l nl => ?_⟩
      have s1 := Same.new (o := .lst [V.str "run", V.str n]) nl
      have h1 : (upd H l (.lst [V.str "run", V.str n])) l = some (.lst [V.str "run", V.str n]) := upd_same
      generalize upd H l (.lst [V.str "run", V.str n]) = H1 at s1 h1 ⊢
      by_cases z0 : 0 < zs.length
      · refine ⟨_, rfl, t, _, (2 : Nat), _, rfl, rfl, s1.tup sq, rfl, c, _, rfl, .inr (.of (s1 _ _ hc)), _, _, rfl, rfl, _, rfl, ite2 (fun _ => ?_) fun q => absurd (decide_eq_true (by rw [List.length_map]; omega)) q⟩
        refine ⟨(by show 1 ≤ sizeLine; decide), fun l2 nl2 => ?_⟩
        have s2 := s1.trans (Same.new (o := .lst [V.str "broken"]) nl2)
        have h2 : (upd H1 l2 (.lst [V.str "broken"])) l2 = some (.lst [V.str "broken"]) := upd_same
        have h12 := (Same.new (o := .lst [V.str "broken"]) nl2) _ _ h1
        generalize upd H1 l2 (.lst [V.str "broken"]) = H2 at s2 h2 h12 ⊢
        refine ⟨l, l2, _, _, rfl, rfl, h12, h2, (by show 2 + 1 ≤ sizeLine; decide), fun l3 nl3 => ?_⟩
        have s3 := s2.trans (Same.new (o := .lst ([V.str "run", V.str n] ++ [V.str "broken"])) nl3)
        have h3 : (upd H2 l3 (.lst ([V.str "run", V.str n] ++ [V.str "broken"]))) l3 = some (.lst (([("run" : Str), n] ++ [("broken" : Str)]).map V.str)) := upd_same
        generalize upd H2 l3 (.lst ([V.str "run", V.str n] ++ [V.str "broken"])) = H3 at s3 h3 ⊢
        refine ⟨_, rfl, t, _, (2 : Nat), _, rfl, rfl, s3.tup sq, rfl, c, _, rfl, .inr (.of (s3 _ _ hc)), fun l4 nl4 => ?_⟩
        have s4 := s3.trans (Same.new (o := .lst (zs.map V.str)) nl4)
        have h4 : (upd H3 l4 (.lst (zs.map V.str))) l4 = some (.lst (zs.map V.str)) := upd_same
        have h34 := (Same.new (o := .lst (zs.map V.str)) nl4) _ _ h3
        generalize upd H3 l4 (.lst (zs.map V.str)) = H4 at s4 h4 h34 ⊢
        refine ⟨l3, l4, _, _, rfl, rfl, h34, h4, Nat.le_trans (by rw [List.length_map, List.length_map]; show 2 + 1 + zs.length ≤ 100; omega) (by decide), fun l5 nl5 => ?_⟩
        have s5 := s4.trans (Same.new (o := .lst (([("run" : Str), n] ++ [("broken" : Str)]).map V.str ++ zs.map V.str)) nl5)
        exact fin l5 [("broken" : Str)] _ s5 (by rw [← List.map_append]; exact upd_same) (by decide) (by show 1 ≤ min 1 zs.length; omega)
      · refine ⟨_, rfl, t, _, (2 : Nat), _, rfl, rfl, s1.tup sq, rfl, c, _, rfl, .inr (.of (s1 _ _ hc)), _, _, rfl, rfl, _, rfl, ite2 (fun q => absurd (of_decide_eq_true q) (by rw [List.length_map]; omega)) fun _ => ?_⟩
        refine ⟨(by show 0 ≤ sizeLine; decide), fun l2 nl2 => ?_⟩
        have s2 := s1.trans (Same.new (o := .lst []) nl2)
        have h2 : (upd H1 l2 (.lst [])) l2 = some (.lst []) := upd_same
        have h12 := (Same.new (o := .lst []) nl2) _ _ h1
        generalize upd H1 l2 (.lst []) = H2 at s2 h2 h12 ⊢
        refine ⟨l, l2, _, _, rfl, rfl, h12, h2, (by show 2 + 0 ≤ sizeLine; decide), fun l3 nl3 => ?_⟩
        have s3 := s2.trans (Same.new (o := .lst ([V.str "run", V.str n] ++ [])) nl3)
        have h3 : (upd H2 l3 (.lst ([V.str "run", V.str n] ++ []))) l3 = some (.lst (([("run" : Str), n] ++ []).map V.str)) := upd_same
        generalize upd H2 l3 (.lst ([V.str "run", V.str n] ++ [])) = H3 at s3 h3 ⊢
        refine ⟨_, rfl, t, _, (2 : Nat), _, rfl, rfl, s3.tup sq, rfl, c, _, rfl, .inr (.of (s3 _ _ hc)), fun l4 nl4 => ?_⟩
        have s4 := s3.trans (Same.new (o := .lst (zs.map V.str)) nl4)
        have h4 : (upd H3 l4 (.lst (zs.map V.str))) l4 = some (.lst (zs.map V.str)) := upd_same
        have h34 := (Same.new (o := .lst (zs.map V.str)) nl4) _ _ h3
        generalize upd H3 l4 (.lst (zs.map V.str)) = H4 at s4 h4 h34 ⊢
        refine ⟨l3, l4, _, _, rfl, rfl, h34, h4, Nat.le_trans (by rw [List.length_map, List.length_map]; show 2 + 0 + zs.length ≤ 100; omega) (by decide), fun l5 nl5 => ?_⟩
        have s5 := s4.trans (Same.new (o := .lst (([("run" : Str), n] ++ []).map V.str ++ zs.map V.str)) nl5)
        exact fin l5 [] _ s5 (by rw [← List.map_append]; exact upd_same) (by decide) (Nat.zero_le _)
end
end Mf
/-! a text times 0 or 1 -/
namespace Mf
open PySem PySem.Spec PyProof.Rows L2
def rRepS : R2 := fun x y H Q => ∃ a k, x = .str a ∧ y = .int k ∧ ((k = 0 ∧ Q (.str Str.empty) H) ∨ (k = 1 ∧ Q (.str a) H))
theorem op_repS {X : Cx} : OpR X (binaryOp .Mult) rRepS := by
  intro pins s σ H x y v u Q I rx ry h
  obtain ⟨a, k, rfl, rfl, h⟩ := h
  obtain ⟨t, rfl⟩ := rx
  obtain ⟨t', rfl⟩ := ry
  rcases h with ⟨rfl, q⟩ | ⟨rfl, q⟩
  · exact PySem.P.mul_str_none (by decide) (by decide) ⟨.str Str.empty, H, I.tok _, ⟨_, rfl⟩, q⟩
  · refine PySem.P.mul_str (by decide) (fun _ e => by simp at e) (fun _ e => by simp at e) ?_
    rw [if_neg (by decide), if_pos (by simp)]
    exact ⟨.str a, H, I, ⟨_, rfl⟩, q⟩
end Mf
namespace Mf
open PySem L2
section
variable {P : Program} {w : World} {K : PySem.W.Frag} {mg : Str → Option Value} {base : Heap} {C CH CR CI : Addr}
/-! ### _law_bent -/
def spBent : Sp := fun vs H Q _ => ∃ (a : Addr) (z : Str) (n : Nat), vs = [.ref a, .str z] ∧ Src H a (n + 10) ∧ z.length ≤ 400000 ∧ ∀ z' H', z'.length ≤ 3 * z.length + 6 → spc z' ≤ 2 * spc z + 1 → Src H' a n → Q (.str z') H'
abbrev signs : List Str := [" ", "-", "a", "z", "0", "7", "A", "+", "_", "\n", "~", ":"]
abbrev sBent : Stmt := top 36
theorem scBent : FnScope ["_law_source_here", "_law_text", "_law_way", "_law_at", "_law_sign", "_law_lines", "_law_line_here"] ["_law_source_here", "_law_text"] (defScope sBent) := ⟨rfl, rfl, rfl, by decide +kernel, rfl, by decide +kernel, by decide +kernel⟩
set_option maxHeartbeats 1000000 in
theorem ok_bent {f : Addr} {fd : FuncData} (F : Fun K "_law_bent" "_law_bent" sBent f fd) (c_draw : Cal P w K mg base CX0 1 "_law_draw" psD spDraw) (mLen : mg "len" = none) (mInt : mg "int" = none) : FnOk P w K mg base CX0 2 f fd ["_law_source_here", "_law_text"] spBent := by
  refine F.ok scBent (fun vs H Q E h => ?_) (fun cdv A outer s H vs Q E hr h => ?_)
  · obtain ⟨a, z, n, rfl, _⟩ := h
    rfl
  · obtain ⟨a, z, n, rfl, S, lz, k⟩ := h
    have hr_draw := hr
    refine ⟨_, (pss_cons (ps_set (i := 2) scBent.nd rfl (by first | exact Or.inl rfl | exact Or.inr rfl) (pe_cal c_draw hr_draw pass0 (pa_cons (pv 0) (pa_cons pe_int pa_nil))))
      (pss_cons (ps_set (i := 3) scBent.nd rfl (by first | exact Or.inl rfl | exact Or.inr rfl) (pe_cal c_draw hr_draw pass0 (pa_cons (pv 0) (pa_cons (pe_op op_add (pe_callB call_len_str (by rfl) mLen (by decide +kernel) (pa_cons (pv 1) pa_nil)) pe_int) pa_nil))))
      (pss_cons (ps_set (i := 4) scBent.nd rfl (by first | exact Or.inl rfl | exact Or.inr rfl) (pe_ix (ixl K) (pe_lst (pa_cons pe_str (pa_cons pe_str (pa_cons pe_str (pa_cons pe_str (pa_cons pe_str (pa_cons pe_str (pa_cons pe_str (pa_cons pe_str (pa_cons pe_str (pa_cons pe_str (pa_cons pe_str (pa_cons pe_str pa_nil))))))))))))) (pe_cal c_draw hr_draw pass0 (pa_cons (pv 0) (pa_cons pe_int pa_nil))) (fun _ _ => rfl)))
      (pss_cons (ps_if (pt_cmpR op_lt (pv 2) pe_int (nomark _))
        (pss_one (ps_ret (pe_op op_add_str (pe_op op_add_str (pe_slice sl_str (pv 1) po_none (po_some (pv 3))) (pv 4)) (pe_slice sl_str (pv 1) (po_some (pv 3)) po_none)))) pss_nil)
      (pss_cons (ps_if (pt_cmpR op_lt (pv 2) pe_int (nomark _))
        (pss_one (ps_ret (pe_op op_add_str (pe_op op_add_str (pe_slice sl_str (pv 1) po_none (po_some (pv 3))) (pe_op op_repS (pv 4) (pe_callTy call_int1 (by rfl) mInt (by decide +kernel) (pa_cons (pe_cmpR op_eq (pv 2) pe_int (nomark _)) pa_nil)))) (pe_slice sl_str (pv 1) (po_some (pe_op op_add (pv 3) pe_int)) po_none)))) pss_nil)
      (pss_cons (ps_set (i := 5) scBent.nd rfl (by first | exact Or.inl rfl | exact Or.inr rfl) (pe_split (pv 1) pe_str))
      (pss_cons (ps_set (i := 6) scBent.nd rfl (by first | exact Or.inl rfl | exact Or.inr rfl) (pe_bm PySem.F.plainAttrs_list PySem.F.slot_list_pop PySem.F.type_list_pop mt_popAt (pv 5) (pa_cons (pe_cal c_draw hr_draw pass0 (pa_cons (pv 0) (pa_cons (pe_callB (k_len K) (by rfl) mLen (by decide +kernel) (pa_cons (pv 5) pa_nil)) pa_nil))) pa_nil)))
      (pss_one (ps_ret (pe_join pe_str (pe_op op_cat (pv 5) (pe_op op_rep (pe_lst (pa_cons (pv 6) (pa_cons (pv 6) pa_nil))) (pe_callTy call_int1 (by rfl) mInt (by decide +kernel) (pa_cons (pe_cmpR op_eq (pv 2) pe_int (nomark _)) pa_nil)))))))))))))), ?_⟩
    have big : (16777000 : Nat) < sizeLine := by decide
    refine ⟨_, rfl, a, 6, n + 9, rfl, by decide, by decide, S, fun way H1 w0 w1 k1 S1 => ?_⟩
    refine ⟨_, rfl, _, rfl, z, rfl, (by omega), _, _, rfl, rfl, a, _, n + 8, rfl, (by omega), (by exact Nat.lt_trans (by omega : _ < 16777000) (by decide)), S1, fun at_ H2 a0 a1 k2 S2 => ?_⟩
    refine ⟨(by show 12 ≤ sizeLine; decide), fun l hl => ⟨_, rfl, a, 12, n + 7, rfl, by decide, by decide, S2.new hl, fun u H3 u0 u1 k3 S3 => ?_⟩⟩
    obtain ⟨x, hx, hat⟩ := atI_mem (xs := signs.map V.str) u0 u1
    obtain ⟨sg, msg, rfl⟩ : ∃ z, z ∈ signs ∧ x = .str z := let ⟨z, a, b⟩ := List.mem_map.mp hx; ⟨z, a, b.symm⟩
    have lsg : sg.length ≤ 1 ∧ spc sg ≤ 1 := (by decide +kernel : ∀ z ∈ signs, z.length ≤ 1 ∧ spc z ≤ 1) sg msg
    refine ⟨l, _, u, _, rfl, rfl, .of (k3 _ _ (S2.ne hl) upd_same), hat, ?_⟩
    have back : ∀ z' : Str, z'.length ≤ 3 * z.length + 6 → spc z' ≤ 2 * spc z + 1 → Q (.str z') H3 := fun z' h g => k z' H3 h g (S3.mono (by omega))
    obtain ⟨lsg, ssg⟩ := lsg
    have two : ∀ b, spc (cutS z none (some at_)) + spc (cutS z (some b) none) ≤ 2 * spc z := fun b => by
      have := cut_spc z none (some at_)
      have := cut_spc z (some b) none
      omega
    refine ⟨_, rfl, _, _, rfl, rfl, _, rfl, ite2 (fun _ => ?_) fun _ => ?_⟩
    · have b1 := cutS_length z none (some at_)
      have b2 := cutS_length z (some at_) none
      have b3 := two at_
      exact ⟨_, rfl, _, rfl, _, rfl, _, rfl, (by omega), _, rfl, _, _, rfl, rfl, (by omega), _, rfl, _, rfl, _, rfl, _, rfl, (by omega), _, _, rfl, rfl, (by rw [app_len]; omega), back _ (by rw [app_len, app_len]; omega) (by rw [app_spc, app_spc]; omega)⟩
    refine ⟨_, rfl, _, _, rfl, rfl, _, rfl, ite2 (fun _ => ?_) fun _ => ?_⟩
    · have b1 := cutS_length z none (some at_)
      have b2 := cutS_length z (some (at_ + 1)) none
      have b3 := two (at_ + 1)
      refine ⟨_, rfl, _, rfl, _, rfl, _, rfl, (by omega), _, rfl, _, rfl, rfl, .inr ⟨_, rfl, ?_⟩⟩
      have em0 : spc Str.empty = 0 := rfl
      by_cases c : way = 2
      · rw [decide_eq_true (congrArg V.int c)]
        exact ⟨_, _, rfl, rfl, .inr ⟨rfl, _, _, rfl, rfl, (by omega), _, rfl, _, rfl, _, _, rfl, rfl, _, rfl, _, rfl, (by omega), _, _, rfl, rfl, (by rw [app_len]; omega), back _ (by rw [app_len, app_len]; omega) (by rw [app_spc, app_spc]; omega)⟩⟩
      · rw [decide_eq_false (fun e => c (V.int.inj e))]
        exact ⟨_, _, rfl, rfl, .inl ⟨rfl, _, _, rfl, rfl, (by rw [em_len]; omega), _, rfl, _, rfl, _, _, rfl, rfl, _, rfl, _, rfl, (by omega), _, _, rfl, rfl, (by rw [app_len, em_len]; omega), back _ (by rw [app_len, app_len, em_len]; omega) (by rw [app_spc, app_spc, em0]; omega)⟩⟩
    have c1 : ("\n" : Str).length = 1 := by decide +kernel
    have c0 : spc ("\n" : Str) = 0 := by decide +kernel
    obtain ⟨q1, q2, q3⟩ := split_sum z ("\n" : Str) nl_ne (by decide +kernel)
    have q4 := part_spc z
    refine ⟨_, rfl, ⟨_, rfl⟩, _, _, rfl, rfl, (by rw [c1]; decide), (by omega), fun L nL => ?_⟩
    have S4 := S3.new (o := .lst ((Txt.split z ("\n" : Str)).map V.str)) nL
    have hL : (upd H3 L (.lst ((Txt.split z ("\n" : Str)).map V.str))) L = some (.lst ((Txt.split z ("\n" : Str)).map V.str)) := upd_same
    have La : L ≠ a := S3.ne nL
    generalize upd H3 L (.lst ((Txt.split z ("\n" : Str)).map V.str)) = H4 at S4 hL
    generalize Txt.split z ("\n" : Str) = ps at q1 q2 q3 q4 hL
    have pos : 0 < ps.length := List.length_pos_iff.mpr q3
    refine ⟨_, rfl, .inl ⟨rfl, _, .of hL⟩, _, rfl, _, rfl, L, _, rfl, .inl (.of hL), a, _, n + 6, rfl, (by rw [List.length_map]; omega), (by rw [List.length_map]; exact Nat.lt_trans (by omega : _ < 16777000) (by decide)), S4.mono (by omega), fun kv H5 kv0 kv1 k5 S5 => ?_⟩
    have h5 := k5 _ _ La hL
    rw [List.length_map] at kv1
    obtain ⟨ki, rfl⟩ := Int.eq_ofNat_of_zero_le kv0
    obtain ⟨yk, hyk⟩ : ∃ y, ps[ki]? = some y := ⟨_, List.getElem?_eq_getElem (by omega)⟩
    have lk := le_sum (List.mem_of_getElem? hyk)
    have sk := le_spc (List.mem_of_getElem? hyk)
    refine ⟨L, _, _, ki, .str yk, rfl, rfl, h5, by omega, by omega, seq_at (by rw [List.length_map]; omega), by rw [List.getElem?_map, hyk]; rfl, ?_⟩
    rw [era_map]
    have es := sum_era ps ki (·.length) hyk
    have e2 := sum_era ps ki spc hyk
    have el : (ps.eraseIdx ki).length ≤ ps.length := List.length_eraseIdx_le ps ki
    have h6 : (upd H5 L (.lst ((ps.eraseIdx ki).map V.str))) L = some (.lst ((ps.eraseIdx ki).map V.str)) := upd_same
    have S6 : Src (upd H5 L (.lst ((ps.eraseIdx ki).map V.str))) a (n + 6) := S5.put La
    generalize upd H5 L (.lst ((ps.eraseIdx ki).map V.str)) = H6 at h6 S6 ⊢
    generalize ps.eraseIdx ki = qs at es e2 el h6
    have fin : ∀ (ps' : List Str) (H' : Hp), (ps'.map (·.length)).sum ≤ 2 * z.length + 2 → ps'.length ≤ z.length + 3 → (ps'.map spc).sum ≤ 2 * spc z → Src H' a n → Q (.str (Txt.join ("\n" : Str) ps')) H' := fun ps' H' h1 h2 h3 S' => by
      have j1 := join_len ("\n" : Str) ps'
      have j2 := join_spc ("\n" : Str) ps'
      rw [c1] at j1
      rw [c0] at j2
      exact k _ H' (by omega) (by omega) S'
    have sz : ∀ (ps' : List Str), (ps'.map (·.length)).sum ≤ 2 * z.length + 2 → ps'.length ≤ z.length + 3 → (ps'.map (·.length)).sum + ps'.length * ("\n" : Str).length ≤ sizeLine := fun ps' h1 h2 => by rw [c1]; omega
    refine ⟨⟨_, rfl⟩, _, rfl, _, rfl, _, rfl, (by show 2 ≤ sizeLine; decide), fun M nM => ?_⟩
    have S7 := S6.new (o := .lst [V.str yk, V.str yk]) nM
    have hM : (upd H6 M (.lst [V.str yk, V.str yk])) M = some (.lst [V.str yk, V.str yk]) := upd_same
    have h7 : (upd H6 M (.lst [V.str yk, V.str yk])) L = some (.lst (qs.map V.str)) := (upd_ne (fun q => by rw [q, nM] at h6; cases h6)).trans h6
    generalize upd H6 M (.lst [V.str yk, V.str yk]) = H7 at S7 hM h7
    refine ⟨_, rfl, rfl, .inr ⟨_, rfl, ?_⟩⟩
    obtain ⟨ds, kk, ek, eds, mds⟩ : ∃ (ds : List Str) (kk : Int), (if decide (V.int way = V.int 4) = true then (1 : Int) else 0) = kk ∧ (0 ≤ kk ∧ kk ≤ 1 ∧ (List.replicate kk.toNat [V.str yk, V.str yk]).flatten = ds.map V.str) ∧ (ds = [] ∨ ds = [yk, yk]) := by
      by_cases c : way = 4
      · exact ⟨[yk, yk], 1, by rw [decide_eq_true (congrArg V.int c)]; rfl, ⟨by decide, by decide, rfl⟩, .inr rfl⟩
      · exact ⟨[], 0, by rw [decide_eq_false (fun e => c (V.int.inj e))]; rfl, ⟨by decide, by decide, rfl⟩, .inl rfl⟩
    rw [ek]
    obtain ⟨kk0, kk1, eds⟩ := eds
    refine ⟨M, kk, _, rfl, rfl, hM, by omega, by omega, Nat.le_trans (by show 2 * kk.toNat ≤ 2; omega) (by decide), fun p np => ?_⟩
    rw [eds]
    have S9 := S7.new (o := .lst (ds.map V.str)) np
    have hp : (upd H7 p (.lst (ds.map V.str))) p = some (.lst (ds.map V.str)) := upd_same
    have h9 : (upd H7 p (.lst (ds.map V.str))) L = some (.lst (qs.map V.str)) := (upd_ne (fun q => by rw [q, np] at h7; cases h7)).trans h7
    generalize upd H7 p (.lst (ds.map V.str)) = H9 at S9 hp h9
    have all : ∀ f : Str → Nat, ((qs ++ ds).map f).sum ≤ (qs.map f).sum + 2 * f yk := fun f => by
      rw [List.map_append, List.sum_append]
      rcases mds with rfl | rfl
      · show _ + 0 ≤ _; omega
      · show _ + (f yk + (f yk + 0)) ≤ _; omega
    have dl : ds.length ≤ 2 := by rcases mds with rfl | rfl <;> simp
    refine ⟨L, p, _, _, rfl, rfl, h9, hp, by rw [List.length_map, List.length_map]; exact Nat.le_trans (by omega : _ ≤ 16777000) (by decide), fun q nq => ?_⟩
    refine ⟨_, q, qs ++ ds, rfl, rfl, .inl (.of (by rw [List.map_append]; exact upd_same)), sz _ ?_ ?_, fin _ _ ?_ ?_ ?_ ((S9.new nq).mono (by omega))⟩
    · have := all (·.length); omega
    · rw [List.length_append]; omega
    · have := all (·.length); omega
    · rw [List.length_append]; omega
    · have := all spc; omega
/-! ### _law_with_line -/
def spWith : Sp := fun vs H Q _ => ∃ (a : Addr) (z : Str) (n : Nat), vs = [.ref a, .str z] ∧ Src H a (n + 10) ∧ z.length ≤ 400000 ∧ ∀ z' H', z'.length ≤ 2 * z.length + 20 → spc z' ≤ spc z + 3 → Src H' a n → Q (.str z') H'
abbrev odds : List Str := ["run p broken", "run", "set d", "broken", "run", "run set broken", "set d ", "run  p"]
abbrev sWith_line : Stmt := top 37
theorem scWith_line : FnScope ["_law_source_here", "_law_text", "_law_lines", "_law_line_here"] ["_law_source_here", "_law_text"] (defScope sWith_line) := ⟨rfl, rfl, rfl, by decide +kernel, rfl, by decide +kernel, by decide +kernel⟩
set_option maxHeartbeats 1000000 in
theorem ok_with {f : Addr} {fd : FuncData} (F : Fun K "_law_with_line" "_law_with_line" sWith_line f fd) (c_draw : Cal P w K mg base CX0 1 "_law_draw" psD spDraw) (mLen : mg "len" = none) : FnOk P w K mg base CX0 2 f fd ["_law_source_here", "_law_text"] spWith := by
  refine F.ok scWith_line (fun vs H Q E h => ?_) (fun cdv A outer s H vs Q E hr h => ?_)
  · obtain ⟨a, z, n, rfl, _⟩ := h
    rfl
  · obtain ⟨a, z, n, rfl, S, lz, k⟩ := h
    have hr_draw := hr
    refine ⟨_, (C8.pss_cut (ps_set (i := 2) scWith_line.nd rfl (by first | exact Or.inl rfl | exact Or.inr rfl) (pe_ifExp (pt_cmpR op_eq (pv 1) pe_str (nomark _)) (pe_lst pa_nil) (pe_split (pv 1) pe_str)))
      (pss_cons (ps_set (i := 3) scWith_line.nd rfl (by first | exact Or.inl rfl | exact Or.inr rfl) (pe_ix (ixl K) (pe_lst (pa_cons pe_str (pa_cons pe_str (pa_cons pe_str (pa_cons pe_str (pa_cons pe_str (pa_cons pe_str (pa_cons pe_str (pa_cons pe_str pa_nil))))))))) (pe_cal c_draw hr_draw pass0 (pa_cons (pv 0) (pa_cons pe_int pa_nil))) (fun _ _ => rfl)))
      (pss_cons (ps_expr (pe_bm PySem.F.plainAttrs_list PySem.F.slot_list_insert PySem.F.type_list_insert mt_insert (pv 2) (pa_cons (pe_cal c_draw hr_draw pass0 (pa_cons (pv 0) (pa_cons (pe_op op_add (pe_callB (k_len K) (by rfl) mLen (by decide +kernel) (pa_cons (pv 2) pa_nil)) pe_int) pa_nil))) (pa_cons (pv 3) pa_nil))))
      (pss_one (ps_ret (pe_join pe_str (pv 2))))))), ?_⟩
    have big : (16777000 : Nat) < sizeLine := by decide
    have c1 : ("\n" : Str).length = 1 := by decide +kernel
    have c0 : spc ("\n" : Str) = 0 := by decide +kernel
    refine ⟨fun σ' H' => ∃ (L : Addr) (ps : List Str), σ' = [some (.ref a), some (.str z), some (.ref L), none] ∧ H' L = some (.lst (ps.map V.str)) ∧ L ≠ a ∧ Src H' a (n + 10) ∧ (ps.map (·.length)).sum ≤ z.length ∧ ps.length ≤ z.length + 1 ∧ (ps.map spc).sum ≤ spc z, ?_, ?_⟩
    · refine ⟨_, rfl, rfl, _, rfl, ite2 (fun _ => ?_) fun _ => ?_⟩
      · exact ⟨(by show 0 ≤ sizeLine; decide), fun L nL => ⟨L, [], rfl, upd_same, S.ne nL, S.new nL, Nat.zero_le _, Nat.zero_le _, Nat.zero_le _⟩⟩
      · obtain ⟨q1, q2, q3⟩ := split_sum z ("\n" : Str) nl_ne (by decide +kernel)
        have q4 := part_spc z
        exact ⟨_, rfl, ⟨_, rfl⟩, _, _, rfl, rfl, (by rw [c1]; decide), (by omega), fun L nL => ⟨L, _, rfl, upd_same, S.ne nL, S.new nL, by omega, by omega, q4⟩⟩
    rintro σ H1 ⟨L, ps, rfl, hL, La, S1, p1, p2, p3⟩
    refine ⟨(by show 8 ≤ sizeLine; decide), fun l hl => ⟨_, rfl, a, 8, n + 9, rfl, by decide, by decide, (S1.new hl).mono (by omega), fun u H2 u0 u1 k2 S2 => ?_⟩⟩
    obtain ⟨x, hx, hat⟩ := atI_mem (xs := odds.map V.str) u0 u1
    obtain ⟨sg, msg, rfl⟩ : ∃ z, z ∈ odds ∧ x = .str z := let ⟨z, a, b⟩ := List.mem_map.mp hx; ⟨z, a, b.symm⟩
    obtain ⟨lsg, ssg⟩ := (by decide +kernel : ∀ z ∈ odds, z.length ≤ 14 ∧ spc z ≤ 3) sg msg
    refine ⟨l, _, u, _, rfl, rfl, .of (k2 _ _ (S1.ne hl) upd_same), hat, ?_⟩
    have hL2 := k2 _ _ La ((Same.new hl) _ _ hL)
    refine ⟨_, rfl, .inl ⟨rfl, _, .of hL2⟩, ?_⟩
    refine ⟨_, rfl, _, rfl, L, _, rfl, .inl (.of hL2), _, _, rfl, rfl, a, _, n + 8, rfl, (by rw [List.length_map]; omega), (by rw [List.length_map]; exact Nat.lt_trans (by omega : _ < 16777000) (by decide)), S2, fun kv H3 kv0 kv1 k3 S3 => ?_⟩
    have hL3 := k3 _ _ La hL2
    rw [List.length_map] at kv1
    obtain ⟨ki, rfl⟩ := Int.eq_ofNat_of_zero_le kv0
    refine ⟨_, rfl, L, _, (ki : Nat), .str sg, rfl, rfl, hL3, by rw [List.length_map]; exact Nat.lt_of_le_of_lt (by omega : _ ≤ 400001) (by decide), by omega, by omega, ?_⟩
    have em : ((ps.map V.str).take ((ki : Nat) : Int).toNat ++ [V.str sg] ++ (ps.map V.str).drop ((ki : Nat) : Int).toNat) = (ps.take ki ++ sg :: ps.drop ki).map V.str := by
      rw [Int.toNat_natCast, List.map_append, List.map_cons, List.map_take, List.map_drop, List.append_assoc]; rfl
    rw [em]
    have sums : ∀ f : Str → Nat, ((ps.take ki ++ sg :: ps.drop ki).map f).sum = (ps.map f).sum + f sg := fun f => by
      have e : (ps.map f).sum = ((ps.take ki).map f).sum + ((ps.drop ki).map f).sum := by
        rw [← List.sum_append, ← List.map_append, List.take_append_drop]
      rw [List.map_append, List.sum_append, List.map_cons, List.sum_cons, e]
      omega
    have ln : (ps.take ki ++ sg :: ps.drop ki).length = ps.length + 1 := by
      rw [List.length_append, List.length_cons, List.length_take, List.length_drop]
      omega
    have u1 := sums (·.length)
    have u2 := sums spc
    have h4 : (upd H3 L (.lst ((ps.take ki ++ sg :: ps.drop ki).map V.str))) L = some (.lst ((ps.take ki ++ sg :: ps.drop ki).map V.str)) := upd_same
    have S4 := S3.put (o := .lst ((ps.take ki ++ sg :: ps.drop ki).map V.str)) La
    generalize upd H3 L (.lst ((ps.take ki ++ sg :: ps.drop ki).map V.str)) = H4 at h4 S4 ⊢
    generalize ps.take ki ++ sg :: ps.drop ki = qs at u1 u2 ln h4
    have j1 := join_len ("\n" : Str) qs
    have j2 := join_spc ("\n" : Str) qs
    rw [c1] at j1
    rw [c0] at j2
    exact ⟨⟨_, rfl⟩, _, rfl, _, L, qs, rfl, rfl, .inl (.of h4), (by rw [c1]; omega), k _ H4 (by omega) (by omega) (S4.mono (by omega))⟩
end
end Mf
namespace Mf
open PySem L2
/-- what is told of events, as data -/
def DueD (es : List Ev) (d : PyData) : Prop := (badE es ≠ 0 ∧ d = .tuple [.str "line", .int (badE es : Nat)]) ∨ (badE es = 0 ∧ ∃ ds, Paired OrdD es ds ∧ d = .tuple [.str "events", .tuple ds])
def LikeE (e e' : Ev) : Prop := evB e = evB e' ∧ e.fs.map fdN = e'.fs.map fdN
theorem bad_like : ∀ {es es' : List Ev} {k : Nat}, Paired LikeE es es' → badFromE k es = badFromE k es'
  | [], [], _, .nil => rfl
  | e :: es, e' :: es', k, .cons a b => by
    rw [badFromE_cons, badFromE_cons, a.1, bad_like (k := k + 1) b]
theorem ord_like : ∀ {es es' : List Ev} {ds ds' : List PyData}, Paired LikeE es es' → Paired OrdD es ds → Paired OrdD es' ds' → ds = ds'
  | [], [], [], [], .nil, .nil, .nil => rfl
  | _ :: _, _ :: _, _ :: _, _ :: _, .cons a b, .cons x p, .cons y q => by rw [ord_one a.2 x y, ord_like b p q]
theorem due_one {es es' : List Ev} {d d' : PyData} (h : Paired LikeE es es') (x : DueD es d) (y : DueD es' d') : d = d' := by
  have eb : badE es = badE es' := bad_like h
  rcases x with ⟨n, rfl⟩ | ⟨n, ds, p, rfl⟩ <;> rcases y with ⟨m, rfl⟩ | ⟨m, ds', q, rfl⟩
  · rw [eb]
  · exact absurd (eb.trans m) n
  · exact absurd (eb.symm.trans n) m
  · rw [ord_like h p q]
theorem like_refl : ∀ (es : List Ev), Paired LikeE es es
  | [] => .nil
  | _ :: es => .cons ⟨rfl, rfl⟩ (like_refl es)
theorem rd_like (l : Str) : LikeE (rdP l) (rdL l) := by
  unfold rdP rdL
  cases Txt.split l (" " : Str) with
  | nil => exact ⟨rfl, rfl⟩
  | cons k ws =>
    by_cases c1 : k = ("run" : Str) ∧ ws.length = 1
    · obtain ⟨rfl, c1⟩ := c1
      rw [evW_run c1, evW_run c1]; exact ⟨rfl, rfl⟩
    by_cases c2 : k = ("run" : Str) ∧ 2 < ws.length ∧ ws.getD 1 "" = ("broken" : Str)
    · obtain ⟨rfl, c2, c3⟩ := c2
      rw [evW_broken c2 c3, evW_broken c2 c3]; exact ⟨rfl, rfl⟩
    by_cases c3 : k = ("set" : Str) ∧ ws.length = 2 ∧ numT (ws.getD 1 "") = true
    · obtain ⟨rfl, c3, c4⟩ := c3
      rw [evW_set c3 c4, evW_set c3 c4]; exact ⟨rfl, rfl⟩
    · rw [evW_mal c1 c2 c3, evW_mal c1 c2 c3]; exact ⟨rfl, rfl⟩
theorem rdL_noLs (l : Str) : NoLs (rdL l) := by
  unfold rdL
  cases Txt.split l (" " : Str) with
  | nil => exact noLs_of rfl
  | cons k ws =>
    by_cases c1 : k = ("run" : Str) ∧ ws.length = 1
    · obtain ⟨rfl, c1⟩ := c1
      rw [evW_run c1]; exact noLs_of rfl
    by_cases c2 : k = ("run" : Str) ∧ 2 < ws.length ∧ ws.getD 1 "" = ("broken" : Str)
    · obtain ⟨rfl, c2, c3⟩ := c2
      rw [evW_broken c2 c3]; exact noLs_of rfl
    by_cases c3 : k = ("set" : Str) ∧ ws.length = 2 ∧ numT (ws.getD 1 "") = true
    · obtain ⟨rfl, c3, c4⟩ := c3
      rw [evW_set c3 c4]; exact noLs_of rfl
    · rw [evW_mal c1 c2 c3]; exact noLs_of rfl
theorem maps_like : ∀ (ls : List Str), Paired LikeE (ls.map rdP) (ls.map rdL)
  | [] => .nil
  | l :: ls => .cons (rd_like l) (maps_like ls)
theorem orA_dps {K : PySem.W.Frag} {H : Hp} {xs : List V} {ds : List PyData} (p : Paired (OrA K H) xs ds) : DpAll K H xs ds := by
  induction p with
  | nil => exact .nil
  | cons a _ ih => exact .cons a.dp ih
theorem due_sh {es : List Ev} {d : PyData} (x : DueD es d) : Sh 4 d := by
  rcases x with ⟨_, rfl⟩ | ⟨_, ds, p, rfl⟩
  · refine .tuple fun e he => ?_
    simp only [List.mem_cons, List.not_mem_nil, or_false] at he
    rcases he with rfl | rfl
    · exact Sh.up (.str (by decide +kernel)) (by decide)
    · exact Sh.up (.int _) (by decide)
  · refine .tuple fun e he => ?_
    simp only [List.mem_cons, List.not_mem_nil, or_false] at he
    rcases he with rfl | rfl
    · exact Sh.up (.str (by decide +kernel)) (by decide)
    · refine .tuple fun e he => ?_
      obtain ⟨i, hi⟩ := List.mem_iff_getElem?.mp he
      have : ∀ {es : List Ev} {ds : List PyData}, Paired OrdD es ds → ∀ e ∈ ds, Sh 2 e := fun {es ds} p => by
        induction p with
        | nil => exact fun _ h => nomatch h
        | cons a _ ih =>
          intro e he
          rcases List.mem_cons.mp he with rfl | he
          · exact ord_sh a
          · exact ih e he
      exact this p e he
section
variable {P : Program} {w : World} {K : PySem.W.Frag} {mg : Str → Option Value} {base : Heap} {C CH CR CI : Addr}
/-! ### _law_due -/
def spDue (K : PySem.W.Frag) : Sp := fun vs H Q _ => ∃ (a : Addr) (us : List V) (es : List Ev), vs = [.ref a] ∧ H a = some (.lst us) ∧ Paired (EvA K H) us es ∧ AllE es ∧ (∀ e ∈ es, NoLs e) ∧ es.length ≤ 1000001 ∧ ∀ t d H', Same H H' → Dp K H' (.ref t) d → DueD es d → Q (.ref t) H'
abbrev sDue : Stmt := top 38
theorem scDue : FnScope ["_law_events", "_law_found", "_law_event", "_law_k"] ["_law_events"] (defScope sDue) := ⟨rfl, rfl, rfl, by decide +kernel, rfl, by decide +kernel, by decide +kernel⟩
set_option maxHeartbeats 1000000 in
theorem ok_due {f : Addr} {fd : FuncData} (F : Fun K "_law_due" "_law_due" sDue f fd) (mEnum : mg "enumerate" = none) (mTuple : mg "tuple" = none) (mSorted : mg "sorted" = none) (mSet : mg "set" = none) (c_valid : Cal P w K mg base CX0 2 "_law_valid" ["_law_event"] (spValid K)) : FnOk P w K mg base CX0 3 f fd ["_law_events"] (spDue K) := by
  refine F.ok scDue (fun vs H Q E h => ?_) (fun cdv A outer s H vs Q E hr h => ?_)
  · obtain ⟨a, us, es, rfl, _⟩ := h
    rfl
  · obtain ⟨a, us, es, rfl, ha, pr, ok, nls, few, k⟩ := h
    have hr_valid := hr
    have ln := Paired.length pr
    refine ⟨_, (pss_cons (ps_for PassesOwn.never rfl (pi_enum (by rfl) mEnum (pa_cons (pv 0) pa_nil)) (pg_tup rfl (pgs_cons (pg_name (i := 3) scDue.nd rfl (by first | exact Or.inl rfl | exact Or.inr rfl)) (pgs_cons (pg_name (i := 2) scDue.nd rfl (by first | exact Or.inl rfl | exact Or.inr rfl)) pgs_nil)))
        (pss_one (ps_if (PW.pt (pw_or (pt_cmpR op_eq (pv 3) pe_int (nomark _)) (pw_or1 (pt_not (pt_val (pe_cal c_valid hr_valid pass0 (pa_cons (pv 2) pa_nil)))))))
          (pss_one (ps_ret (pe_tup (pa_cons pe_str (pa_cons (pe_op op_add (pv 3) pe_int) pa_nil))))) pss_nil)))
      (pss_cons (ps_set (i := 1) scDue.nd rfl (by first | exact Or.inl rfl | exact Or.inr rfl) (pe_lst pa_nil))
      (pss_cons (ps_for PassesOwn.never rfl (pi_list (pv 0)) (pg_name (i := 2) scDue.nd rfl (by first | exact Or.inl rfl | exact Or.inr rfl))
        (pss_one (ps_expr (pe_bm PySem.F.plainAttrs_list PySem.F.slot_list_append PySem.F.type_list_append mt_append (pv 1) (pa_cons (pe_ifExp (pt_cmpR op_eq (pe_ix (ixt K) (pv 2) pe_int (fun _ _ => rfl)) pe_str (nomark _)) (pv 2) (pe_tup (pa_cons pe_str (pa_cons (pe_ix (ixt K) (pv 2) pe_int (fun _ _ => rfl)) (pa_cons (pe_callTy (k_tuple K) (by rfl) mTuple (by decide +kernel) (pa_cons (pe_callB (cr_sortedX rfl) (by rfl) mSorted (by decide +kernel) (pa_cons (pe_callTy (cr_setS rfl) (by rfl) mSet (by decide +kernel) (pa_cons (pe_ix (ixt K) (pv 2) pe_int (fun _ _ => rfl)) pa_nil)) pa_nil)) pa_nil)) pa_nil))))) pa_nil)))))
      (pss_one (ps_ret (pe_tup (pa_cons pe_str (pa_cons (pe_callTy (k_tuple K) (by rfl) mTuple (by decide +kernel) (pa_cons (pv 1) pa_nil)) pa_nil)))))))), ?_⟩
    have big : (16777000 : Nat) < sizeLine := by decide
    refine ⟨_, rfl, a, _, rfl, .of ha, ?_⟩
    refine for_it walk_enum (fun i σ H' => ∃ (v2 v3 : Option V), σ = [some (.ref a), none, v2, v3] ∧ Same H H' ∧ i ≤ 200 ∧ badFromE i (es.drop i) = badE es) ⟨none, none, rfl, Same.refl H, by decide, rfl⟩ (fun i σ H' _ q => .of (q.choose_spec.choose_spec.2.1 _ _ ha)) ?_ ?_
    · rintro i x σ H1 H2 hi ⟨v1, v2, rfl, s1, l200, bf⟩ ⟨T, x1, y, rfl, hT, rfl, e1, hu⟩
      obtain rfl : x1 = .int (i : Nat) := (Option.some.inj e1).symm
      have hu : us[i]? = some y := hu
      obtain ⟨e, he, rq⟩ := paired_get pr hu
      have rm := List.mem_of_getElem? he
      have il := (List.getElem?_eq_some_iff.mp he).1
      have dr : es.drop i = e :: es.drop (i + 1) := by rw [List.drop_eq_getElem_cons il, (List.getElem?_eq_some_iff.mp he).2]
      rw [dr, badFromE_cons] at bf
      have s2 := s1.trans (Same.new (o := .tup [.int (i : Nat), y]) hT)
      have hit : ∀ H3, Same H H3 → (i = 200 ∨ evB e = false) → ∀ t, H3 t = none → Q (.ref t) (upd H3 t (.tup [.str "line", .int ((i : Nat) + 1)])) := fun H3 s3 c t nt => by
        rw [if_pos c] at bf
        refine k t _ _ (s3.trans (Same.new nt)) (.tup (.of upd_same) (.cons (.str _) (.cons (.int _) .nil))) (.inl ⟨by omega, ?_⟩)
        rw [← bf]; rfl
      refine ⟨T, _, rfl, .of upd_same, rfl, _, _, rfl, _, _, rfl, rfl, ?_⟩
      refine ⟨_, rfl, rfl, _, rfl, ite2 (fun q => ?_) fun q => ?_⟩
      · have q := V.int.inj (of_decide_eq_true q)
        exact iteT ⟨_, rfl, _, _, rfl, rfl, (by show 2 ≤ sizeLine; decide), hit _ s2 (.inl (by omega))⟩
      have n200 : i ≠ 200 := fun e => q (decide_eq_true (by rw [e]; rfl))
      refine ⟨_, rfl, y, e, rfl, rq.same s2, ok e rm, nls e rm, fun H3 s3 => ?_⟩
      cases rr : evB e with
      | true =>
        rw [if_neg (fun h => h.elim n200 fun z => by rw [rr] at z; cases z)] at bf
        exact ⟨_, rfl, iteF ⟨_, _, rfl, s2.trans s3, by omega, bf⟩⟩
      | false => exact ⟨_, rfl, iteT ⟨_, rfl, _, _, rfl, rfl, (by show 2 ≤ sizeLine; decide), hit _ (s2.trans s3) (.inr rr)⟩⟩
    · rintro σ H1 ⟨v2, v3, rfl, s1, _, bf⟩
      rw [ln, List.drop_length] at bf
      have b0 : badE es = 0 := bf.symm
      have good := badFromE_zero b0
      refine ⟨(by show 0 ≤ sizeLine; decide), fun D hD => ?_⟩
      have sD := Same.new (o := .lst []) hD
      have s2 := s1.trans sD
      refine ⟨_, rfl, a, rfl, ⟨_, .of (s2 _ _ ha)⟩, ?_⟩
      refine for_it walk_list (fun i σ H' => ∃ (v2 : Option V) (xs : List V) (ds : List PyData), σ = [some (.ref a), some (.ref D), v2, v3] ∧ Same H1 H' ∧ H' D = some (.lst xs) ∧ xs.length = i ∧ Paired (OrA K H') xs ds ∧ Paired OrdD (es.take i) ds) ⟨v2, [], [], rfl, sD, upd_same, rfl, .nil, .nil⟩ (fun i σ H' _ q => by
        obtain ⟨_, _, _, _, s, _⟩ := q
        exact .of (s _ _ (s1 _ _ ha))) ?_ ?_
      · rintro i x σ _ H2 hi ⟨v2, xs, ds, rfl, s2, hD2, lx, p2, od⟩ ⟨rfl, hx⟩
        obtain ⟨e, he, rq⟩ := paired_get pr hx
        have em := List.mem_of_getElem? he
        have eb := good e em
        obtain ⟨el, e3⟩ := evB_three eb
        obtain ⟨t, vs, rfl, _, ht, pe⟩ := rq.same (s1.trans s2)
        have oke := ok e em
        have nle := nls e em
        obtain ⟨l, fs⟩ := e
        obtain rfl : l = false := el
        obtain ⟨kd, n, m, rfl, _, mo, hp, hn⟩ := oke rfl e3
        obtain ⟨v3', rfl, f3⟩ := three_of pe
        have sq : SqT K H2 t [.str kd, .str n, v3'] := ht rfl
        have eb : (nameB n && (if kd = ("run" : Str) then plB m else decide (kd = ("set" : Str)) && nuB m)) = true := eb
        obtain ⟨nb, eb⟩ := Bool.and_eq_true_iff.mp eb
        have iN := (nameB_iff n).mp nb
        have step : ∀ v d H3, Same H2 H3 → OrA K H3 v d → OrdD ⟨false, [.s kd, .s n, m]⟩ d → ∃ (v2 : Option V) (xs' : List V) (ds : List PyData), [some (.ref a), some (.ref D), some (.ref t), v3] = [some (V.ref a), some (V.ref D), v2, v3] ∧ Same H1 (upd H3 D (.lst (xs ++ [v]))) ∧ (upd H3 D (.lst (xs ++ [v]))) D = some (.lst xs') ∧ xs'.length = i + 1 ∧ Paired (OrA K (upd H3 D (.lst (xs ++ [v])))) xs' ds ∧ Paired OrdD (es.take (i + 1)) ds := fun v d H3 s3 oa o => by
          have hD3 := s3 _ _ hD2
          refine ⟨_, xs ++ [v], ds ++ [d], rfl, (s2.trans s3).mut hD, upd_same, by rw [List.length_append, lx]; rfl, ?_, ?_⟩
          · exact paired_snoc (paired_same p2 fun _ _ z => (z.same s3).sameN (SameN.refl.put hD3)) (oa.sameN (SameN.refl.put hD3))
          · rw [List.take_add_one, he]
            exact paired_snoc od o
        refine ⟨_, rfl, .inl ⟨rfl, _, .of hD2⟩, ?_⟩
        refine ⟨_, rfl, t, _, (0 : Nat), _, rfl, rfl, sq, rfl, rfl, _, rfl, ite2 (fun q => ?_) fun q => ?_⟩
        · have q : kd = ("set" : Str) := V.str.inj (of_decide_eq_true q)
          subst q
          have ne : ("set" : Str) ≠ ("run" : Str) := by decide +kernel
          rw [if_neg ne, decide_eq_true rfl, Bool.true_and] at eb
          cases m with
          | i x =>
            obtain rfl : v3' = .int x := f3
            exact ⟨_, rfl, D, _, _, rfl, rfl, hD2, by omega, step _ _ H2 (Same.refl H2) (.inr ⟨t, n, x, rfl, sq, rfl⟩) (.inr ⟨n, x, rfl, iN, rfl⟩)⟩
          | b x => cases eb
          | s z => cases eb
          | tp zs => cases eb
          | ls zs => cases eb
        · have q : ¬ kd = ("set" : Str) := fun z => q (decide_eq_true (congrArg V.str z))
          by_cases qr : kd = ("run" : Str)
          · subst qr
            rw [if_pos rfl] at eb
            cases m with
            | i x => cases eb
            | b x => cases eb
            | s z => cases eb
            | ls zs => exact absurd (show Fd.ls zs ∈ [Fd.s ("run" : Str), Fd.s n, Fd.ls zs] by simp) (nle zs)
            | tp zs =>
              obtain ⟨c, rfl, hc⟩ := f3
              have nz : ∀ z ∈ zs, IsName z := fun z hz => (nameB_iff z).mp (List.all_eq_true.mp eb z hz)
              refine ⟨_, rfl, t, _, (1 : Nat), _, rfl, rfl, sq, rfl, ?_⟩
              refine ⟨_, rfl, t, _, (2 : Nat), _, rfl, rfl, sq, rfl, c, zs, rfl, .inr (.of hc), by have := mo.1; omega, fun q l nq nd m => ?_⟩
              refine ⟨q, l, rfl, upd_same, fun ys r so m2 len nr => ?_⟩
              refine ⟨r, _, rfl, .inl ⟨.of upd_same, fun u nu => ?_⟩⟩
              have up : Up ys := up_of so (nodup_len nd (fun z hz => (m2 z).mpr hz) len)
              have h1 : Same H2 (upd (upd (upd H2 q (.ext fun h => TxR P w h q l)) r (.lst (ys.map V.str))) u (.tup (ys.map V.str))) := ((Same.new nq).trans (Same.new nr)).trans (Same.new nu)
              have hu : (upd (upd (upd H2 q (.ext fun h => TxR P w h q l)) r (.lst (ys.map V.str))) u (.tup (ys.map V.str))) u = some (.tup (ys.map V.str)) := upd_same
              refine ⟨(by show 3 ≤ sizeLine; decide), fun b nb => ?_⟩
              have s4 := Same.new (o := .tup [.str "run", .str n, .ref u]) nb
              have mm : ∀ z, z ∈ ys ↔ z ∈ zs := fun z => (m2 z).trans (m z)
              exact ⟨D, _, _, rfl, rfl, s4 _ _ (h1 _ _ hD2), by omega, step _ _ _ (h1.trans s4) (.inl ⟨b, n, u, ys, rfl, .of upd_same, .of (s4 _ _ hu), rfl⟩) (.inl ⟨n, zs, ys, rfl, iN, fun z hz => nz z ((mm z).mp hz), up, mm, rfl⟩)⟩
          · rw [if_neg qr, decide_eq_false q, Bool.false_and] at eb
            cases eb
      · rintro σ H2 ⟨v2, xs, ds, rfl, s2, hD2, lx, p2, od⟩
        rw [ln, List.take_length] at od
        refine ⟨_, rfl, D, _, rfl, .inl ⟨.of hD2, fun u nu => ⟨(by show 2 ≤ sizeLine; decide), fun t nt => ?_⟩⟩⟩
        have s3 := (Same.new (o := .tup xs) nu)
        have s4 := s3.trans (Same.new (o := .tup [.str "events", .ref u]) nt)
        exact k t _ _ ((s1.trans s2).trans s4) (.tup (.of upd_same) (.cons (.str _) (.cons (.tup (.of ((Same.new nt) _ _ upd_same)) (orA_dps (paired_same p2 fun _ _ z => z.same s4))) .nil))) (.inr ⟨b0, ds, od, rfl⟩)
end
end Mf
namespace Mf
open PySem L2
section
variable {P : Program} {w : World} {K : PySem.W.Frag} {mg : Str → Option Value} {base : Heap} {C CH CR CI : Addr}
/-! ### _law_made -/
def spMadeA (K : PySem.W.Frag) : Sp := fun vs H Q _ => ∃ (a : Addr) (us : List V) (es : List Ev), vs = [.ref a, .non] ∧ H a = some (.lst us) ∧ Paired (EvA K H) us es ∧ AllE es ∧ es.length ≤ 1000001 ∧ ∀ t d H', Same H H' → Dp K H' (.ref t) d → DueD es d → Q (.ref t) H'
def spMadeB (K : PySem.W.Frag) : Sp := fun vs H Q _ => ∃ (a : Addr) (z : Str), vs = [.ref a, .str z] ∧ z.length ≤ 1000000 ∧ spc z ≤ 3500 ∧ ∀ t d H', Same H H' → Dp K H' (.ref t) d → DueD ((lns z).map rdP) d → Q (.ref t) H'
def spMade (K : PySem.W.Frag) : Sp := fun vs H Q E => spMadeA K vs H Q E ∨ spMadeB K vs H Q E
abbrev sMade : Stmt := top 39
theorem scMade : FnScope ["_law_events", "_law_text", "_law_found", "e"] ["_law_events", "_law_text"] (defScope sMade) := ⟨rfl, rfl, rfl, by decide +kernel, rfl, by decide +kernel, by decide +kernel⟩
theorem ok_madeA {f g pp : Addr} {mc : Value} {fd : FuncData} (F : Fun K "_law_made" "_law_made" sMade f fd) (U : ErI P w K mg base CI) (nI : PySem.W.findIn K (.ref CI) "line" = some none) (T : HsC K mg CH) (mk : CalC P w K mg base (L2.CX P w) 4 "History" CH ["self", "events"] (spHsInit K CH CI) [])
    (cr : ClX.CRead K CH mc) (cm : ClX.CMet K CH mc "parse" pp g) (FP : FnR P w K mg base (L2.CX P w) 6 g (spHsParse K CH CI)) : FnOk P w K mg base CX0 7 f fd ["_law_events", "_law_text"] (spMadeA K) := by
  refine F.ok scMade (fun vs H Q E h => ?_) (fun cdv A outer s H vs Q E hr h => ?_)
  · obtain ⟨a, us, es, rfl, _⟩ := h
    rfl
  · obtain ⟨a, us, es, rfl, ha, pr, ok, few, k⟩ := h
    have mg_History := T.mgC
    have hr5 : Room 5 _ := hr.mono (by decide : 5 ≤ 6)
    refine ⟨_, (pss_cons (ps_set (i := 2) scMade.nd rfl (by first | exact Or.inl rfl | exact Or.inr rfl) (pe_tup (pa_cons pe_str pa_nil)))
      (pss_cons (ps_try_as (i := 3) rfl rfl scMade.nd rfl rfl ⟨rfl, by decide, .inl U.mgC⟩ takes0 (fun W pn xe tk _ => (pss_one (ps_set (i := 2) scMade.nd rfl (by first | exact Or.inl rfl | exact Or.inr rfl) (pe_tup (pa_cons pe_str (pa_cons (pe_ifExp (pt_cmpR op_isN (pv 1) pe_non (nomark _)) (fldK K (pe_mkcS mk hr5 (fun σ => passAt tk σ) (pa_cons (pv 0) pa_nil))) (fldK K (pe_cmethS (pe_glob (v := .ref _) rfl mg_History rfl) cr cm FP hr (fun σ => passAt tk σ) (pa_cons (pv 1) pa_nil)))) pa_nil)))))) (fun a_ oe cls d_ pn hz hf => (pss_one (ps_set (i := 2) scMade.nd rfl (by first | exact Or.inl rfl | exact Or.inr rfl) (pe_tup (pa_cons pe_str (pa_cons (pe_xf U.xf nI hz hf (pv 3)) pa_nil)))))))
      (pss_one (ps_ret (pv 2))))), ?_⟩
    refine ⟨(by show 1 ≤ sizeLine; decide), fun t0 ht0 => ?_⟩
    have s0 := Same.new (o := .tup [.str "none"]) ht0
    generalize upd H t0 (.tup [.str "none"]) = H0 at s0 ⊢
    refine ⟨_, rfl, rfl, _, rfl, ite2 (fun _ => ?_) fun q => absurd rfl q⟩
    refine ⟨_, rfl, fun p dx np ndx _ => ?_⟩
    have sg : Same H0 (upd (upd H0 dx (.own p)) p (.ins CH dx [])) := ns_grow np ndx
    have s1 := s0.trans sg
    refine ⟨p, dx, a, us, es, rfl, upd_same, .inl (.of (s1 _ _ ha)), paired_same pr fun _ _ q => q.same s1, ok, few, fun nz dd H1 nd s2 hd => ?_, fun b0 t xs ds H1 h1 h2 pa po kp => ⟨rfl, ?_⟩⟩
    · refine ⟨true, U.exm, fun _ e he => ?_, fun q => nomatch q⟩
      refine ⟨_, rfl, rfl, rfl, dd, _, .int (badE es : Nat), rfl, hd, rfl, (by show 2 ≤ sizeLine; decide), fun t nt => ⟨_, rfl, ?_⟩⟩
      exact k t _ _ ((s1.trans s2).trans (Same.new nt)) (.tup (.of upd_same) (.cons (.str _) (.cons (.int _) .nil))) (.inl ⟨nz, rfl⟩)
    · refine ⟨p, CH, dx, _, _, rfl, h1, T.ins.cl, T.nE, flE_get t, (by show 2 ≤ sizeLine; decide), fun u nu => ⟨_, rfl, ?_⟩⟩
      have s3 := Same.new (o := .tup [.str "events", .ref t]) nu
      have s2 : Same H H1 := fun b o e => kp b o (ne_of_none (s0 _ _ e) np) (sg _ _ (s0 _ _ e))
      exact k u _ _ (s2.trans s3) (.tup (.of upd_same) (.cons (.str _) (.cons (.tup (.of (s3 _ _ h2)) (orA_dps (paired_same pa fun _ _ z => z.same s3))) .nil))) (.inr ⟨b0, ds, po, rfl⟩)
theorem ok_madeB {f g pp : Addr} {mc : Value} {fd : FuncData} (F : Fun K "_law_made" "_law_made" sMade f fd) (U : ErI P w K mg base CI) (nI : PySem.W.findIn K (.ref CI) "line" = some none) (T : HsC K mg CH) (mk : CalC P w K mg base (L2.CX P w) 4 "History" CH ["self", "events"] (spHsInit K CH CI) [])
    (cr : ClX.CRead K CH mc) (cm : ClX.CMet K CH mc "parse" pp g) (FP : FnR P w K mg base (L2.CX P w) 6 g (spHsParse K CH CI)) : FnOk P w K mg base CX0 7 f fd ["_law_events", "_law_text"] (spMadeB K) := by
  refine F.ok scMade (fun vs H Q E h => ?_) (fun cdv A outer s H vs Q E hr h => ?_)
  · obtain ⟨a, z, rfl, _⟩ := h
    rfl
  · obtain ⟨a, z, rfl, lz, sz, k⟩ := h
    have mg_History := T.mgC
    have hr5 : Room 5 _ := hr.mono (by decide : 5 ≤ 6)
    refine ⟨_, (pss_cons (ps_set (i := 2) scMade.nd rfl (by first | exact Or.inl rfl | exact Or.inr rfl) (pe_tup (pa_cons pe_str pa_nil)))
      (pss_cons (ps_try_as (i := 3) rfl rfl scMade.nd rfl rfl ⟨rfl, by decide, .inl U.mgC⟩ takes0 (fun W pn xe tk _ => (pss_one (ps_set (i := 2) scMade.nd rfl (by first | exact Or.inl rfl | exact Or.inr rfl) (pe_tup (pa_cons pe_str (pa_cons (pe_ifExp (pt_cmpR op_isN (pv 1) pe_non (nomark _)) (fldK K (pe_mkcS mk hr5 (fun σ => passAt tk σ) (pa_cons (pv 0) pa_nil))) (fldK K (pe_cmethS (pe_glob (v := .ref _) rfl mg_History rfl) cr cm FP hr (fun σ => passAt tk σ) (pa_cons (pv 1) pa_nil)))) pa_nil)))))) (fun a_ oe cls d_ pn hz hf => (pss_one (ps_set (i := 2) scMade.nd rfl (by first | exact Or.inl rfl | exact Or.inr rfl) (pe_tup (pa_cons pe_str (pa_cons (pe_xf U.xf nI hz hf (pv 3)) pa_nil)))))))
      (pss_one (ps_ret (pv 2))))), ?_⟩
    refine ⟨(by show 1 ≤ sizeLine; decide), fun t0 ht0 => ?_⟩
    have s0 := Same.new (o := .tup [.str "none"]) ht0
    generalize upd H t0 (.tup [.str "none"]) = H0 at s0 ⊢
    refine ⟨_, rfl, rfl, _, rfl, ite2 (fun q => absurd (of_decide_eq_true q) (by simp)) fun _ => ?_⟩
    refine ⟨rfl, _, rfl, z, rfl, lz, sz, fun nz dd H1 nd s2 hd => ?_, fun b0 p H1 hs s2 => ?_⟩
    · refine ⟨true, U.exm, fun _ e he => ?_, fun q => nomatch q⟩
      refine ⟨_, rfl, rfl, rfl, dd, _, .int (badE ((lns z).map rdP) : Nat), rfl, hd, rfl, (by show 2 ≤ sizeLine; decide), fun t nt => ⟨_, rfl, ?_⟩⟩
      exact k t _ _ ((s0.trans s2).trans (Same.new nt)) (.tup (.of upd_same) (.cons (.str _) (.cons (.int _) .nil))) (.inl ⟨nz, rfl⟩)
    · obtain ⟨dx, t, xs, ds, h1, h2, pa, po⟩ := hs
      refine ⟨p, CH, dx, _, _, rfl, h1, T.ins.cl, T.nE, flE_get t, (by show 2 ≤ sizeLine; decide), fun u nu => ⟨_, rfl, ?_⟩⟩
      have s3 := Same.new (o := .tup [.str "events", .ref t]) nu
      exact k u _ _ ((s0.trans s2).trans s3) (.tup (.of upd_same) (.cons (.str _) (.cons (.tup (.of (s3 _ _ h2)) (orA_dps (paired_same pa fun _ _ z => z.same s3))) .nil))) (.inr ⟨b0, ds, po, rfl⟩)
theorem ok_made {f g pp : Addr} {mc : Value} {fd : FuncData} (F : Fun K "_law_made" "_law_made" sMade f fd) (U : ErI P w K mg base CI) (nI : PySem.W.findIn K (.ref CI) "line" = some none) (T : HsC K mg CH) (mk : CalC P w K mg base (L2.CX P w) 4 "History" CH ["self", "events"] (spHsInit K CH CI) [])
    (cr : ClX.CRead K CH mc) (cm : ClX.CMet K CH mc "parse" pp g) (FP : FnR P w K mg base (L2.CX P w) 6 g (spHsParse K CH CI)) : FnOk P w K mg base CX0 7 f fd ["_law_events", "_law_text"] (spMade K) := fnOk_or (ok_madeA F U nI T mk cr cm FP) (ok_madeB F U nI T mk cr cm FP)
end
end Mf
namespace Mf
open PySem L2
mutual
theorem dp_same {K : PySem.W.Frag} {H H' : Hp} (s : Same H H') : ∀ {v : V} {d : PyData}, Dp K H v d → Dp K H' v d
  | _, _, .non => .non
  | _, _, .bl b => .bl b
  | _, _, .int i => .int i
  | _, _, .str x => .str x
  | _, _, .lst h a => .lst (same_SqL s h) (dpAll_same s a)
  | _, _, .tup h a => .tup (s.tup h) (dpAll_same s a)
theorem dpAll_same {K : PySem.W.Frag} {H H' : Hp} (s : Same H H') : ∀ {xs : List V} {ds : List PyData}, DpAll K H xs ds → DpAll K H' xs ds
  | _, _, .nil => .nil
  | _, _, .cons a b => .cons (dp_same s a) (dpAll_same s b)
end
theorem refl_of {k : Nat} {d : PyData} (h : Sh k d) : PyData.eqv d d = true := SeqAt.eqv_refl d h.1
theorem goodP : GoodE evP := .inr ⟨"p", [], rfl, (nameB_iff _).mp (by decide +kernel), by decide, fun _ h => nomatch h⟩
theorem rep_flat {α : Type} (x : α) : ∀ n : Nat, (List.replicate n [x]).flatten = List.replicate n x
  | 0 => rfl
  | n + 1 => by rw [List.replicate_succ, List.flatten_cons, rep_flat x n, List.replicate_succ]; rfl
theorem paired_rep {α β : Type} {R : α → β → Prop} {x : α} {y : β} (h : R x y) : ∀ n : Nat, Paired R (List.replicate n x) (List.replicate n y)
  | 0 => .nil
  | n + 1 => by rw [List.replicate_succ, List.replicate_succ]; exact .cons h (paired_rep h n)
theorem paired_ins {α β : Type} {R : α → β → Prop} {x : α} {y : β} (h : R x y) : ∀ {xs : List α} {ys : List β} (k : Nat), Paired R xs ys → Paired R (xs.take k ++ x :: xs.drop k) (ys.take k ++ y :: ys.drop k)
  | _, _, 0, p => by rw [List.take_zero, List.take_zero, List.drop_zero, List.drop_zero]; exact .cons h p
  | _, _, k + 1, .nil => by rw [List.take_nil, List.take_nil, List.drop_nil, List.drop_nil]; exact .cons h .nil
  | _, _, k + 1, .cons a p => .cons a (paired_ins h k p)
theorem mem_ins {β : Type} {y e : β} {ys : List β} {k : Nat} (h : e ∈ ys.take k ++ y :: ys.drop k) : e = y ∨ e ∈ ys := by
  rcases List.mem_append.mp h with h | h
  · exact .inr (List.mem_of_mem_take h)
  · rcases List.mem_cons.mp h with h | h
    · exact .inl h
    · exact .inr (List.mem_of_mem_drop h)
theorem len_ins {β : Type} {y : β} {ys : List β} {k : Nat} : (ys.take k ++ y :: ys.drop k).length = ys.length + 1 := by
  rw [List.length_append, List.length_cons, List.length_take, List.length_drop]
  omega
theorem sum_leC {f : Str → Nat} {c : Nat} : ∀ {zs : List Str}, (∀ z ∈ zs, f z ≤ c) → (zs.map f).sum ≤ c * zs.length
  | [], _ => Nat.zero_le _
  | z :: zs, h => by
    have a := h z List.mem_cons_self
    have b := sum_leC fun x hx => h x (List.mem_cons_of_mem _ hx)
    rw [List.map_cons, List.sum_cons, List.length_cons, Nat.mul_succ]
    omega
section
variable {P : Program} {w : World} {K : PySem.W.Frag} {mg : Str → Option Value} {base : Heap} {C CH CR CI : Addr}
/-! ### law -/
abbrev sLaw : Stmt := top 40
theorem scLaw : FnScope ["_law_script", "_law_source_here", "_law_way", "_law_events", "_law_text", "_law_turn", "_law_lines", "_law_k", "_law_event", "_law_line_here"] ["_law_script"] (defScope sLaw) := ⟨rfl, rfl, rfl, by decide +kernel, rfl, by decide +kernel, by decide +kernel⟩
set_option maxHeartbeats 4000000 in
theorem ok_law {f : Addr} {fd : FuncData} (F : Fun K "law" "law" sLaw f fd) (mRange : mg "range" = none) (mLen : mg "len" = none)
    (c_source : Cal P w K mg base CX0 1 "_law_source" ["_law_script"] (spSource K)) (c_draw : Cal P w K mg base CX0 1 "_law_draw" ["_law_source_here", "_law_many"] spDraw) (c_good : Cal P w K mg base CX0 4 "_law_good" ["_law_source_here"] (spGood K)) (c_line : Cal P w K mg base CX0 1 "_law_line" ["_law_event"] (spLineE K)) (c_odd : Cal P w K mg base CX0 2 "_law_odd" ["_law_source_here"] (spOddE K)) (c_made : Cal P w K mg base CX0 7 "_law_made" ["_law_events", "_law_text"] (spMade K)) (c_due : Cal P w K mg base CX0 3 "_law_due" ["_law_events"] (spDue K))
    (c_with_line : Cal P w K mg base CX0 2 "_law_with_line" ["_law_source_here", "_law_text"] spWith) (c_bent : Cal P w K mg base CX0 2 "_law_bent" ["_law_source_here", "_law_text"] spBent) (c_read_line : Cal P w K mg base CX0 2 "_law_read_line" ["_law_line_here"] (spRdLine K)) : FnOk P w K mg base CX0 8 f fd ["_law_script"] (spLaw K) := by
  refine F.ok scLaw (fun vs H Q E h => ?_) (fun cdv A outer s H vs Q E hr h => ?_)
  · obtain ⟨a, ns, rfl, _⟩ := h
    rfl
  · obtain ⟨a, ns, rfl, hs, hl, k⟩ := h
    have hr1 : Room 1 _ := hr.mono (by decide : 1 ≤ 7); have hr2 : Room 2 _ := hr.mono (by decide : 2 ≤ 7); have hr3 : Room 3 _ := hr.mono (by decide : 3 ≤ 7)
    have hr_source := hr1; have hr_draw := hr1; have hr_good : Room 4 _ := hr.mono (by decide : 4 ≤ 7); have hr_line := hr1; have hr_odd := hr2; have hr_made := hr; have hr_due := hr3; have hr_with_line := hr2; have hr_bent := hr2; have hr_read_line := hr2
    refine ⟨_, (pss_cons (ps_set (i := 1) scLaw.nd rfl (by first | exact Or.inl rfl | exact Or.inr rfl) (pe_cal c_source hr_source pass0 (pa_cons (pv 0) pa_nil)))
      (pss_cons (ps_set (i := 2) scLaw.nd rfl (by first | exact Or.inl rfl | exact Or.inr rfl) (pe_cal c_draw hr_draw pass0 (pa_cons (pv 1) (pa_cons pe_int pa_nil))))
      (pss_cons (ps_setLc (i := 3) (own := [("_law_k", 7)]) (g := (gName 7)) (tt := tYes) rfl scLaw.nd rfl rfl (sw_true rfl rfl rfl (by decide +kernel)) (pi_range1 (by rfl) mRange (pa_cons (pe_cal c_draw hr_draw pass0 (pa_cons (pv 1) (pa_cons pe_int pa_nil))) pa_nil)) (blkOk_by (own := [("_law_k", 7)]) (N := ["_law_script", "_law_source_here", "_law_way", "_law_events", "_law_text", "_law_turn", "_law_lines", "_law_k", "_law_event", "_law_line_here"]) (sc := defScope sLaw) (by decide +kernel)) (fun _ _ _ _ _ => (pg_name (i := 7) scLaw.nd rfl (by first | exact Or.inl rfl | exact Or.inr rfl))) (fun _ _ _ _ _ => pts_nil) (fun _ _ _ _ _ => (pe_cal c_good hr_good pass0 (pa_cons (pv 1) pa_nil))))
      (C8.pss_cut (ps_if (pt_cmpR op_eq (pv 2) pe_int (nomark _))
        (pss_one (ps_set (i := 3) scLaw.nd rfl (by first | exact Or.inl rfl | exact Or.inr rfl) (pe_op op_rep (pe_lst (pa_cons (pe_tup (pa_cons pe_str (pa_cons pe_str (pa_cons (pe_tup pa_nil) pa_nil)))) pa_nil)) (pe_op op_add pe_int (pe_cal c_draw hr_draw pass0 (pa_cons (pv 1) (pa_cons pe_int pa_nil))))))) pss_nil)
      (pss_cons (ps_set (i := 4) scLaw.nd rfl (by first | exact Or.inl rfl | exact Or.inr rfl) (pe_join pe_str (pe_lc (own := [("_law_event", 8)]) (g := (gName 8)) (tt := tYes) rfl scLaw.nd (pi_list (pv 3)) (blkOk_by (own := [("_law_event", 8)]) (N := ["_law_script", "_law_source_here", "_law_way", "_law_events", "_law_text", "_law_turn", "_law_lines", "_law_k", "_law_event", "_law_line_here"]) (sc := defScope sLaw) (by decide +kernel)) (fun _ _ _ _ _ => (pg_name (i := 8) scLaw.nd rfl (by first | exact Or.inl rfl | exact Or.inr rfl))) (fun _ _ _ _ _ => pts_nil) (fun _ _ _ _ _ => (pe_cal c_line hr_line pass0 (pa_cons (pv 8) pa_nil))))))
      (pss_cons (ps_for PassesOwn.never rfl (pi_range1 (by rfl) mRange (pa_cons (pe_cal c_draw hr_draw pass0 (pa_cons (pv 1) (pa_cons pe_int pa_nil))) pa_nil)) (pg_name (i := 5) scLaw.nd rfl (by first | exact Or.inl rfl | exact Or.inr rfl))
        (pss_one (ps_expr (pe_bm PySem.F.plainAttrs_list PySem.F.slot_list_insert PySem.F.type_list_insert mt_insert (pv 3) (pa_cons (pe_cal c_draw hr_draw pass0 (pa_cons (pv 1) (pa_cons (pe_op op_add (pe_callB (k_len K) (by rfl) mLen (by decide +kernel) (pa_cons (pv 3) pa_nil)) pe_int) pa_nil))) (pa_cons (pe_cal c_odd hr_odd pass0 (pa_cons (pv 1) pa_nil)) pa_nil))))))
      (pss_cons (ps_if (pt_cmpR (neD K hr) (pe_cal c_made hr_made pass0 (pa_cons (pv 3) (pa_cons pe_non pa_nil))) (pe_cal c_due hr_due pass0 (pa_cons (pv 3) pa_nil)) (nomark _))
        (pss_one (ps_ret pe_bl)) pss_nil)
      (C8.pss_cut (ps_if (pt_cmpR op_eq (pe_cal c_draw hr_draw pass0 (pa_cons (pv 1) (pa_cons pe_int pa_nil))) pe_int (nomark _))
        (pss_one (ps_set (i := 4) scLaw.nd rfl (by first | exact Or.inl rfl | exact Or.inr rfl) (pe_cal c_with_line hr_with_line pass0 (pa_cons (pv 1) (pa_cons (pv 4) pa_nil))))) pss_nil)
      (pss_cons (ps_for PassesOwn.never rfl (pi_range1 (by rfl) mRange (pa_cons (pe_cal c_draw hr_draw pass0 (pa_cons (pv 1) (pa_cons pe_int pa_nil))) pa_nil)) (pg_name (i := 5) scLaw.nd rfl (by first | exact Or.inl rfl | exact Or.inr rfl))
        (pss_one (ps_set (i := 4) scLaw.nd rfl (by first | exact Or.inl rfl | exact Or.inr rfl) (pe_cal c_bent hr_bent pass0 (pa_cons (pv 1) (pa_cons (pv 4) pa_nil))))))
      (C8.pss_cut (ps_set (i := 6) scLaw.nd rfl (by first | exact Or.inl rfl | exact Or.inr rfl) (pe_ifExp (pt_cmpR op_eq (pv 4) pe_str (nomark _)) (pe_lst pa_nil) (pe_split (pv 4) pe_str)))
      (pss_one (ps_ret (pe_cmpR (eqD K hr) (pe_cal c_made hr_made pass0 (pa_cons (pe_lst pa_nil) (pa_cons (pv 4) pa_nil))) (pe_cal c_due hr_due pass0 (pa_cons (pe_lc (own := [("_law_line_here", 9)]) (g := (gName 9)) (tt := tYes) rfl scLaw.nd (pi_list (pv 6)) (blkOk_by (own := [("_law_line_here", 9)]) (N := ["_law_script", "_law_source_here", "_law_way", "_law_events", "_law_text", "_law_turn", "_law_lines", "_law_k", "_law_event", "_law_line_here"]) (sc := defScope sLaw) (by decide +kernel)) (fun _ _ _ _ _ => (pg_name (i := 9) scLaw.nd rfl (by first | exact Or.inl rfl | exact Or.inr rfl))) (fun _ _ _ _ _ => pts_nil) (fun _ _ _ _ _ => (pe_cal c_read_line hr_read_line pass0 (pa_cons (pv 9) pa_nil)))) pa_nil)) (nomark _)))))))))))))), ?_⟩
    have sz : (5000 : Nat) < sizeLine := by decide
    refine ⟨_, rfl, a, ns, rfl, hs, hl, fun g H1 _ s1 S1 => ?_⟩
    refine ⟨_, rfl, g, 8, 100001, rfl, by decide, by decide, S1.mono (by decide), fun way H2 w0 w1 k2 S2 => ?_⟩
    refine ⟨_, rfl, g, 6, 100000, rfl, by decide, by decide, S2, fun m H3 m0 m1 k3 S3 => ?_⟩
    obtain ⟨m, rfl⟩ := Int.eq_ofNat_of_zero_le m0
    refine ⟨m, rfl, by omega, by omega, fun D nD => ?_⟩
    have Dg : D ≠ g := S3.ne nD
    refine lc_range (lo := 0) (n := ((m : Nat) : Int).toNat) (fun i H' => ∃ (us : List V) (es : List Ev), H' D = some (.lst us) ∧ us.length = i ∧ Paired (EvF K H' fun c => c = D ∨ c = g) us es ∧ (∀ e ∈ es, GoodE e) ∧ Src H' g (99000 - 60 * i))
      ⟨[], [], upd_same, rfl, .nil, (fun _ h => nomatch h), (S3.new nD).mono (by omega)⟩ ?_ ?_
    · rintro i H4 hi ⟨us, es, hD, lu, pe, ge, S4⟩
      rw [Int.toNat_natCast] at hi
      refine ⟨rfl, yes_then ?_⟩
      refine ⟨_, rfl, g, 99000 - 60 * (i + 1), rfl, S4.mono (by omega), fun v e H5 ev ge' k5 S5 => ?_⟩
      have hD5 := k5 _ _ Dg hD
      refine ⟨_, hD5, by omega, us ++ [v], es ++ [e], upd_same, by rw [List.length_append, lu]; rfl, ?_, fun x hx => ?_, S5.put Dg⟩
      · exact paired_snoc (paired_same pe fun _ _ q => (q.kp k5 S4 (.inr rfl)).put hD5 (.inl rfl)) ((evF_free ev ge'.free _).put hD5 (.inl rfl))
      · rcases List.mem_append.mp hx with h | h
        · exact ge x h
        · rw [List.mem_singleton.mp h]; exact ge'
    rintro H4 ⟨us, es, hD, lu, pe, ge, S4⟩
    rw [Int.toNat_natCast] at lu S4
    have le := Paired.length pe
    refine ⟨fun σ' H' => ∃ (L : Addr) (us : List V) (es : List Ev) (c : Nat), σ' = [some (.ref a), some (.ref g), some (.int way), some (.ref L), none, none, none, none, none, none] ∧ H' L = some (.lst us) ∧ L ≠ g ∧ Paired (EvF K H' fun c => c = L ∨ c = g) us es ∧ (∀ e ∈ es, GoodE e) ∧ es.length ≤ 203 ∧ c * es.length ≤ 406 ∧ (c = 5 ∨ (c = 2 ∧ ∀ e ∈ es, e = evP)) ∧ Src H' g 50000, ?_, ?_⟩
    · refine ⟨_, rfl, rfl, _, rfl, ite2 (fun _ => ?_) fun _ => ⟨D, us, es, 5, rfl, hD, Dg, pe, ge, by omega, by omega, .inl rfl, S4.mono (by omega)⟩⟩
      refine ⟨(by show 0 ≤ sizeLine; decide), fun t0 nt0 => ⟨(by show 3 ≤ sizeLine; decide), fun t nt => ⟨(by show 1 ≤ sizeLine; decide), fun M nM => ?_⟩⟩⟩
      have st := ((Same.new (o := .tup []) nt0).trans (Same.new (o := .tup [.str "run", .str "p", .ref t0]) nt)).trans (Same.new (o := .lst [.ref t]) nM)
      have hM : (upd (upd (upd H4 t0 (.tup [])) t (.tup [.str "run", .str "p", .ref t0])) M (.lst [.ref t])) M = some (.lst [.ref t]) := upd_same
      have ht : (upd (upd (upd H4 t0 (.tup [])) t (.tup [.str "run", .str "p", .ref t0])) M (.lst [.ref t])) t = some (.tup [.str "run", .str "p", .ref t0]) := (Same.new nM) _ _ upd_same
      have ht0 : (upd (upd (upd H4 t0 (.tup [])) t (.tup [.str "run", .str "p", .ref t0])) M (.lst [.ref t])) t0 = some (.tup []) := (Same.new nM) _ _ ((Same.new nt) _ _ upd_same)
      have Mg : M ≠ g := (S4.same ((Same.new (o := .tup []) nt0).trans (Same.new (o := .tup [.str "run", .str "p", .ref t0]) nt))).ne nM
      have S5 := S4.same st
      generalize upd (upd (upd H4 t0 (.tup [])) t (.tup [.str "run", .str "p", .ref t0])) M (.lst [.ref t]) = H5 at hM ht ht0 S5 ⊢
      have ev : EvA K H5 (.ref t) evP := ⟨t, _, rfl, (fun q => by cases q), fun _ => .of ht, .cons rfl (.cons rfl (.cons ⟨t0, rfl, ht0⟩ .nil))⟩
      refine ⟨_, rfl, g, 6, 60000, rfl, by decide, by decide, S5.mono (by omega), fun x H6 x0 x1 k6 S6 => ⟨_, _, rfl, rfl, ?_⟩⟩
      obtain ⟨x, rfl⟩ := Int.eq_ofNat_of_zero_le x0
      refine ⟨M, _, _, rfl, rfl, k6 _ _ Mg hM, by omega, by omega, Nat.le_trans (by show 1 * _ ≤ 300; omega) (by decide), fun q nq => ?_⟩
      have e198 : ((198 : Int) + (x : Nat)).toNat = 198 + x := by omega
      rw [e198, rep_flat]
      have ev6 := (evF_free ev goodP.free fun c => c = q ∨ c = g).kp k6 S5 (.inr rfl)
      have sq := Same.new (o := .lst (List.replicate (198 + x) (V.ref t))) nq
      refine ⟨q, _, List.replicate (198 + x) evP, 2, rfl, upd_same, S6.ne nq, paired_rep (ev6.same sq) _, fun e he => ?_, by rw [List.length_replicate]; omega, by rw [List.length_replicate]; omega, .inr ⟨rfl, fun e he => List.eq_of_mem_replicate he⟩, (S6.same sq).mono (by omega)⟩
      rw [List.eq_of_mem_replicate he]; exact goodP
    clear hD Dg pe ge le lu S4
    rintro σ H4 ⟨L, us, es, c, rfl, hL, Lg, pe, ge, l203, l406, cc, S4⟩
    have le := Paired.length pe
    -- the text
    have c1 : ("\n" : Str).length = 1 := by decide +kernel
    have c0 : spc ("\n" : Str) = 0 := by decide +kernel
    refine ⟨⟨_, rfl⟩, _, rfl, L, rfl, ⟨_, .of hL⟩, fun D nD => ?_⟩
    refine lc_it walk_list (fun i H' => Same H4 H' ∧ ∃ zs : List Str, H' D = some (.lst (zs.map V.str)) ∧ zs.length = i ∧ ∀ z ∈ zs, z.length ≤ 80 ∧ spc z ≤ c) ⟨Same.new nD, [], upd_same, rfl, (fun _ h => nomatch h)⟩ (fun i H' _ q => .of (q.1 _ _ hL)) ?_ ?_
    · rintro i x _ H5 hi ⟨s5, zs, hD5, lz, pz⟩ ⟨rfl, hx⟩
      obtain ⟨e, he, ev⟩ := paired_get pe hx
      have em := List.mem_of_getElem? he
      refine ⟨rfl, yes_then ?_⟩
      refine ⟨_, rfl, x, e, rfl, (ev.same s5).ev, ge e em, fun z H6 s6 l80 p5 p2 => ?_⟩
      have hD6 := s6 _ _ hD5
      refine ⟨_, hD6, by rw [List.length_map]; omega, (s5.trans s6).mut nD, zs ++ [z], by rw [upd_same, List.map_append]; rfl, by rw [List.length_append, lz]; rfl, fun y hy => ?_⟩
      rcases List.mem_append.mp hy with h | h
      · exact pz y h
      · rw [List.mem_singleton.mp h]
        rcases cc with rfl | ⟨rfl, al⟩
        · exact ⟨l80, p5⟩
        · exact ⟨l80, p2 (al e em)⟩
    rintro H5 ⟨s5, zs, hD5, lz, pz⟩
    have q1 := sum_leC (f := (·.length)) (c := 80) fun z hz => (pz z hz).1
    have q2 := sum_leC (f := spc) (c := c) fun z hz => (pz z hz).2
    have j1 := join_len ("\n" : Str) zs
    have j2 := join_spc ("\n" : Str) zs
    rw [c1] at j1
    rw [c0] at j2
    have l203' : zs.length ≤ 203 := by omega
    rw [lz, le] at q2
    refine ⟨_, D, zs, rfl, rfl, .inl (.of hD5), Nat.le_trans (by rw [c1]; omega : _ ≤ 20000) (by decide), ?_⟩
    have tx1 : (Txt.join ("\n" : Str) zs).length ≤ 16443 := by omega
    have tx2 : spc (Txt.join ("\n" : Str) zs) ≤ 406 := by omega
    generalize Txt.join ("\n" : Str) zs = tx at tx1 tx2
    have hL5 := s5 _ _ hL
    have pe5 := paired_same pe fun _ _ q => q.same s5
    have S5 := S4.same s5
    clear hL pe S4 s5 hD5 pz q1 q2 j1 j2 lz l203' cc l406 nD
    -- odd ones
    refine ⟨_, rfl, g, 3, 40000, rfl, by decide, by decide, S5.mono (by decide), fun od H6 o0 o1 k6 S6 => ?_⟩
    obtain ⟨od, rfl⟩ := Int.eq_ofNat_of_zero_le o0
    have hL6 := k6 _ _ Lg hL5
    have pe6 := paired_same pe5 fun _ _ q => q.kp k6 S5 (.inr rfl)
    refine ⟨od, rfl, by omega, by omega, ?_⟩
    refine for_range (lo := 0) (n := ((od : Nat) : Int).toNat) (fun i σ H' => ∃ (us : List V) (es : List Ev) (v5 : Option V), σ = [some (.ref a), some (.ref g), some (.int way), some (.ref L), some (.str tx), v5, none, none, none, none] ∧ H' L = some (.lst us) ∧ Paired (EvF K H' fun c => c = L ∨ c = g) us es ∧ (∀ e ∈ es, EvOk e ∧ NoLs e) ∧ es.length ≤ 203 + i ∧ Src H' g (39000 - 10 * i))
      ⟨us, es, none, rfl, hL6, pe6, fun e he => ⟨(ge e he).ok, (ge e he).free.2⟩, by omega, S6.mono (by omega)⟩ ?_ ?_
    · rintro i σ H7 hi ⟨us, es, v5, rfl, hL7, pe7, oe, len, S7⟩
      rw [Int.toNat_natCast] at hi
      have lu := Paired.length pe7
      refine ⟨_, rfl, .inl ⟨rfl, _, .of hL7⟩, ?_⟩
      refine ⟨_, rfl, _, rfl, L, _, rfl, .inl (.of hL7), _, _, rfl, rfl, g, _, 39000 - 10 * i - 1, rfl, by omega, Nat.lt_of_lt_of_le (by omega : _ < 2 ^ 12) (by decide), S7.mono (by omega), fun kv H8 kv0 kv1 k8 S8 => ?_⟩
      obtain ⟨ki, rfl⟩ := Int.eq_ofNat_of_zero_le kv0
      refine ⟨_, rfl, g, 39000 - 10 * i - 2, rfl, S8.mono (by omega), fun v e H9 ev ok nl k9 S9 => ?_⟩
      have hL8 := k8 _ _ Lg hL7
      have hL9 := k9 _ _ Lg hL8
      have gN : H8 g ≠ none := fun e => by
        obtain ⟨x, y, z, hg, _⟩ := S8
        rw [hg] at e; cases e
      have pe9 := paired_same pe7 fun _ _ q => (q.kp k8 S7 (.inr rfl)).kp k9 S8 (.inr rfl)
      have ev9 := ev (fun c => c = L ∨ c = g) (.inr rfl) (fun x hx => hx.elim (fun e => by rw [e, hL8]; simp) fun e => by rw [e]; exact gN)
      refine ⟨L, _, (ki : Nat), v, rfl, rfl, hL9, by omega, by omega, by omega, ?_⟩
      have em : (us.take ((ki : Nat) : Int).toNat ++ [v] ++ us.drop ((ki : Nat) : Int).toNat) = us.take ki ++ v :: us.drop ki := by
        rw [Int.toNat_natCast, List.append_assoc]; rfl
      rw [em]
      refine ⟨_, es.take ki ++ e :: es.drop ki, _, rfl, upd_same, paired_same (paired_ins ev9 ki pe9) fun _ _ q => q.put hL9 (.inl rfl), fun x hx => ?_, by rw [len_ins]; omega, (S9.put Lg).mono (by omega)⟩
      rcases mem_ins hx with rfl | hx
      · exact ⟨ok, nl⟩
      · exact oe x hx
    clear hL5 hL6 pe5 pe6 S5 S6 ge l203 le k6 us es
    rintro σ H6 ⟨us, es, v5, rfl, hL6, pe6, oe, len, S6⟩
    rw [Int.toNat_natCast] at len
    have pa6 := paired_same pe6 fun _ _ q => q.ev
    refine ⟨_, rfl, .inl ⟨L, us, es, rfl, hL6, pa6, fun e he => (oe e he).1, by omega, fun t d H7 s7 dd td => ?_⟩⟩
    refine ⟨_, rfl, L, us, es, rfl, s7 _ _ hL6, paired_same pa6 fun _ _ q => q.same s7, fun e he => (oe e he).1, fun e he => (oe e he).2, by omega, fun t2 d2 H8 s8 dd2 td2 => ?_⟩
    obtain rfl := due_one (like_refl es) td td2
    have sh := due_sh td
    refine ⟨d, d, dp_same s8 dd, dd2, sh.sh, sh.sh, ?_⟩
    rw [refl_of sh]
    refine ⟨_, rfl, ite2 (fun q => absurd q (by simp)) fun _ => ?_⟩
    have S8 := (S6.same s7).same s8
    clear hL6 pe6 pa6 oe len S6 s7 s8 dd dd2 td td2 sh us es
    refine ⟨fun σ' H' => ∃ tx : Str, σ' = [some (.ref a), some (.ref g), some (.int way), some (.ref L), some (.str tx), v5, none, none, none, none] ∧ tx.length ≤ 32906 ∧ spc tx ≤ 409 ∧ Src H' g 30000, ?_, ?_⟩
    · refine ⟨_, rfl, g, 4, 38000, rfl, by decide, by decide, S8.mono (by omega), fun x H9 x0 x1 k9 S9 => ?_⟩
      refine ⟨rfl, _, rfl, ite2 (fun _ => ?_) fun _ => ⟨tx, rfl, by omega, by omega, S9.mono (by decide)⟩⟩
      refine ⟨_, rfl, _, rfl, g, tx, 30000, rfl, S9.mono (by decide), by omega, fun z' H10 l' p' S10 => ⟨z', rfl, by omega, by omega, S10⟩⟩
    clear tx1 tx2 S8 tx
    rintro σ H8 ⟨tx, rfl, tx1, tx2, S8⟩
    refine ⟨_, rfl, g, 4, 29000, rfl, by decide, by decide, S8.mono (by decide), fun bd H9 b0 b1 k9 S9 => ?_⟩
    obtain ⟨bd, rfl⟩ := Int.eq_ofNat_of_zero_le b0
    refine ⟨bd, rfl, by omega, by omega, ?_⟩
    refine for_range (lo := 0) (n := ((bd : Nat) : Int).toNat) (fun i σ H' => ∃ (z : Str) (v5 : Option V), σ = [some (.ref a), some (.ref g), some (.int way), some (.ref L), some (.str z), v5, none, none, none, none] ∧ z.length + 3 ≤ 32909 * 3 ^ i ∧ spc z + 1 ≤ 410 * 2 ^ i ∧ Src H' g (29000 - 10 * i))
      ⟨tx, v5, rfl, (by omega), (by omega), S9⟩ ?_ ?_
    · rintro i σ H10 hi ⟨z, v5, rfl, lz, pz, S10⟩
      rw [Int.toNat_natCast] at hi
      have b3 : 3 ^ i ≤ 9 := Nat.pow_le_pow_right (by decide) (by omega : i ≤ 2)
      refine ⟨_, rfl, _, rfl, g, z, 29000 - 10 * (i + 1), rfl, S10.mono (by omega), by omega, fun z' H11 l' p' S11 => ?_⟩
      refine ⟨z', _, rfl, ?_, ?_, S11⟩
      · rw [Nat.pow_succ]; omega
      · rw [Nat.pow_succ]; omega
    · rintro σ H10 ⟨z, v5, rfl, lz, pz, S10⟩
      rw [Int.toNat_natCast] at lz pz
      have b3 : 3 ^ bd ≤ 27 := Nat.pow_le_pow_right (by decide) (by omega : bd ≤ 3)
      have b2 : 2 ^ bd ≤ 8 := Nat.pow_le_pow_right (by decide) (by omega : bd ≤ 3)
      have lz : z.length ≤ 1000000 := by omega
      have pz : spc z ≤ 3500 := by omega
      clear S10 S8 S9
      obtain ⟨lo, ll⟩ := lns_ok lz pz
      refine ⟨fun σ' H' => ∃ M : Addr, σ' = [some (.ref a), some (.ref g), some (.int way), some (.ref L), some (.str z), v5, some (.ref M), none, none, none] ∧ H' M = some (.lst ((lns z).map V.str)), ?_, ?_⟩
      · refine ⟨_, rfl, rfl, _, rfl, ite2 (fun q => ?_) fun q => ?_⟩
        · have q : z = ("" : Str) := V.str.inj (of_decide_eq_true q)
          have el : lns z = [] := by unfold lns; rw [if_pos q]
          rw [el]
          exact ⟨(by show 0 ≤ sizeLine; decide), fun M nM => ⟨M, rfl, upd_same⟩⟩
        · have q : z ≠ ("" : Str) := fun e => q (decide_eq_true (congrArg V.str e))
          have el : lns z = Txt.split z ("\n" : Str) := by unfold lns; rw [if_neg q]
          rw [el]
          exact ⟨_, rfl, ⟨_, rfl⟩, _, _, rfl, rfl, (by rw [c1]; decide), Nat.le_trans (by omega : _ ≤ 1000002) (by decide), fun M nM => ⟨M, rfl, upd_same⟩⟩
      rintro σ H11 ⟨M, rfl, hM⟩
      refine ⟨(by show 0 ≤ sizeLine; decide), fun q nq => ⟨_, rfl, .inr ⟨q, z, rfl, lz, pz, fun t d H12 s12 dd td => ?_⟩⟩⟩
      have hM2 := s12 _ _ ((Same.new nq) _ _ hM)
      refine ⟨_, rfl, M, rfl, ⟨_, .of hM2⟩, fun D nD => ?_⟩
      refine lc_it walk_list (fun i H' => Same H12 H' ∧ ∃ us : List V, H' D = some (.lst us) ∧ us.length = i ∧ Paired (EvF K H' (· = D)) us (((lns z).map rdL).take i)) ⟨Same.new nD, [], upd_same, rfl, .nil⟩ (fun i H' _ q => .of (q.1 _ _ hM2)) ?_ ?_
      · rintro i x _ H13 hi ⟨s13, us, hD, lu, p2⟩ ⟨rfl, hx⟩
        rw [List.getElem?_map] at hx
        obtain ⟨l, hl, rfl⟩ := Option.map_eq_some_iff.mp hx
        rw [List.length_map] at hi
        obtain ⟨l1, l2⟩ := lo l (List.mem_of_getElem? hl)
        refine ⟨rfl, yes_then ?_⟩
        refine ⟨_, rfl, l, rfl, l1, l2, fun v H14 s14 ev => ?_⟩
        have hD4 := s14 _ _ hD
        refine ⟨_, hD4, Nat.lt_of_le_of_lt (by omega : _ ≤ 1000001) (by decide), (s13.trans s14).mut nD, us ++ [v], upd_same, by rw [List.length_append, lu]; rfl, ?_⟩
        rw [List.take_add_one, List.getElem?_map, hl]
        exact paired_snoc (paired_same p2 fun _ _ q => (q.same s14).put hD4 rfl) ((ev (· = D) (by rintro _ rfl; rw [hD]; simp)).put hD4 rfl)
      · rintro H13 ⟨s13, us, hD, lu, p2⟩
        rw [List.length_map, ← List.length_map (f := rdL), List.take_length] at p2
        refine ⟨D, us, _, rfl, hD, paired_same p2 fun _ _ q => q.ev, fun e he => ?_, fun e he => ?_, by rw [List.length_map]; omega, fun t2 d2 H14 s14 dd2 td2 => ?_⟩
        · obtain ⟨l, hl, rfl⟩ := List.mem_map.mp he
          exact rdL_ok (lo l hl).1 (lo l hl).2
        · obtain ⟨l, hl, rfl⟩ := List.mem_map.mp he
          exact rdL_noLs l
        obtain rfl := due_one (maps_like (lns z)) td td2
        have sh := due_sh td
        refine ⟨d, d, dp_same (s13.trans s14) dd, dd2, sh.sh, sh.sh, ?_⟩
        rw [refl_of sh]
        exact k _
end
end Mf
namespace Mf
open PySem L2
theorem MetF.calC {P : Program} {w : World} {K : PySem.W.Frag} {mg : Str → Option Value} {base : Heap} {CX : CXT} {k : Nat} {x qual : Str} {st : Stmt} {f C : Addr} {ps : List Str} {sp : Sp} (D : MetF K C "__init__" qual st f) (mk : PySem.W.makesIn K C = true) (kc : PySem.W.keepIn K (.ref C) = true) (m : mg x = some (.ref C)) (hb : BindP "__init__" qual st ps)
    (ok : ∀ fd, Fun K "__init__" qual st f fd → FnOk P w K mg base CX k f fd ps sp) : CalC P w K mg base CX k x C ps sp [] := by
  obtain ⟨oc, od, sl, kV, dc, pm, an, cd, ct, a, l, c, q, i, n⟩ := D.ex
  have F := fun_mk (st := st) l c q
  exact ⟨⟨f, _, [], ⟨mk, a, i, kc⟩, ok _ F, m, F.binds hb, .nil⟩⟩
set_option maxHeartbeats 4000000 in
theorem all_mk {l : PySem.W.OpenLaw} {w : World} {K : PySem.W.Frag} {h : Heap} {mg : Str → Option Value} {fa : Addr} (X : K.In h) (G : h.Ns mainGlobals mg) (hfa : mg "law" = some (.ref fa))
    {Cn Ch CI Me fICn tDCn t0Cn fICh tDCh t0Ch fChparse pChparse fICI fDIs_name fDIs_integer fDIs_number fDIs_numeral fDAre_places fDIs_event fDOrdered_event fDParsed_event fDSource fDDraw fDName fDNames fDNumber fDLIsName fDGood fDOdd fDValid fDRead_number fDRead_line fDLine fDBent fDWith_line fDDue fDMade fDLaw xMALFORMED : Addr}
    {ocCn : Value} {odCn : Option Addr} {slCn : Array (Option Value)} {kVCn dcCn pmCn : Value} {anCn : Option Addr} {cdCn cuCn : Value} {o1Cn o2Cn : Obj} {itsCn : List Value} {n1Cn n2Cn : Nat}
    {ocCh : Value} {odCh : Option Addr} {slCh : Array (Option Value)} {kVCh dcCh pmCh : Value} {anCh : Option Addr} {cdCh cuCh : Value} {o1Ch o2Ch : Obj} {itsCh : List Value} {n1Ch n2Ch : Nat}
    {ocChparse : Value} {odChparse : Option Addr} {slChparse : Array (Option Value)} {kVChparse dcChparse pmChparse : Value} {anChparse : Option Addr} {cdChparse ctChparse : Value} {restChparse : List Value}
    {qCI : Str} {NCI : Addr} {bsCI : List Value} {snCI : List Str} {subCI : List Value} {abCI : Bool} {colCI : Option Bool} {ddCI : Option Addr} {uuCI vvCI wwCI xxCI yyCI : Option Value}
    {ocICI : Value} {odICI : Option Addr} {slICI : Array (Option Value)} {kVICI dcICI pmICI : Value} {anICI : Option Addr} {cdICI ctICI : Value}
    {ocDIs_name : Value} {odDIs_name : Option Addr} {slDIs_name : Array (Option Value)} {kVDIs_name dcDIs_name pmDIs_name : Value} {anDIs_name : Option Addr} {cdDIs_name ctDIs_name : Value}
    {ocDIs_integer : Value} {odDIs_integer : Option Addr} {slDIs_integer : Array (Option Value)} {kVDIs_integer dcDIs_integer pmDIs_integer : Value} {anDIs_integer : Option Addr} {cdDIs_integer ctDIs_integer : Value}
    {ocDIs_number : Value} {odDIs_number : Option Addr} {slDIs_number : Array (Option Value)} {kVDIs_number dcDIs_number pmDIs_number : Value} {anDIs_number : Option Addr} {cdDIs_number ctDIs_number : Value}
    {ocDIs_numeral : Value} {odDIs_numeral : Option Addr} {slDIs_numeral : Array (Option Value)} {kVDIs_numeral dcDIs_numeral pmDIs_numeral : Value} {anDIs_numeral : Option Addr} {cdDIs_numeral ctDIs_numeral : Value}
    {ocDAre_places : Value} {odDAre_places : Option Addr} {slDAre_places : Array (Option Value)} {kVDAre_places dcDAre_places pmDAre_places : Value} {anDAre_places : Option Addr} {cdDAre_places ctDAre_places : Value}
    {ocDIs_event : Value} {odDIs_event : Option Addr} {slDIs_event : Array (Option Value)} {kVDIs_event dcDIs_event pmDIs_event : Value} {anDIs_event : Option Addr} {cdDIs_event ctDIs_event : Value}
    {ocDOrdered_event : Value} {odDOrdered_event : Option Addr} {slDOrdered_event : Array (Option Value)} {kVDOrdered_event dcDOrdered_event pmDOrdered_event : Value} {anDOrdered_event : Option Addr} {cdDOrdered_event ctDOrdered_event : Value}
    {ocDParsed_event : Value} {odDParsed_event : Option Addr} {slDParsed_event : Array (Option Value)} {kVDParsed_event dcDParsed_event pmDParsed_event : Value} {anDParsed_event : Option Addr} {cdDParsed_event ctDParsed_event : Value}
    {ocDSource : Value} {odDSource : Option Addr} {slDSource : Array (Option Value)} {kVDSource dcDSource pmDSource : Value} {anDSource : Option Addr} {cdDSource ctDSource : Value}
    {ocDDraw : Value} {odDDraw : Option Addr} {slDDraw : Array (Option Value)} {kVDDraw dcDDraw pmDDraw : Value} {anDDraw : Option Addr} {cdDDraw ctDDraw : Value}
    {ocDName : Value} {odDName : Option Addr} {slDName : Array (Option Value)} {kVDName dcDName pmDName : Value} {anDName : Option Addr} {cdDName ctDName : Value}
    {ocDNames : Value} {odDNames : Option Addr} {slDNames : Array (Option Value)} {kVDNames dcDNames pmDNames : Value} {anDNames : Option Addr} {cdDNames ctDNames : Value}
    {ocDNumber : Value} {odDNumber : Option Addr} {slDNumber : Array (Option Value)} {kVDNumber dcDNumber pmDNumber : Value} {anDNumber : Option Addr} {cdDNumber ctDNumber : Value}
    {ocDLIsName : Value} {odDLIsName : Option Addr} {slDLIsName : Array (Option Value)} {kVDLIsName dcDLIsName pmDLIsName : Value} {anDLIsName : Option Addr} {cdDLIsName ctDLIsName : Value}
    {ocDGood : Value} {odDGood : Option Addr} {slDGood : Array (Option Value)} {kVDGood dcDGood pmDGood : Value} {anDGood : Option Addr} {cdDGood ctDGood : Value}
    {ocDOdd : Value} {odDOdd : Option Addr} {slDOdd : Array (Option Value)} {kVDOdd dcDOdd pmDOdd : Value} {anDOdd : Option Addr} {cdDOdd ctDOdd : Value}
    {ocDValid : Value} {odDValid : Option Addr} {slDValid : Array (Option Value)} {kVDValid dcDValid pmDValid : Value} {anDValid : Option Addr} {cdDValid ctDValid : Value}
    {ocDRead_number : Value} {odDRead_number : Option Addr} {slDRead_number : Array (Option Value)} {kVDRead_number dcDRead_number pmDRead_number : Value} {anDRead_number : Option Addr} {cdDRead_number ctDRead_number : Value}
    {ocDRead_line : Value} {odDRead_line : Option Addr} {slDRead_line : Array (Option Value)} {kVDRead_line dcDRead_line pmDRead_line : Value} {anDRead_line : Option Addr} {cdDRead_line ctDRead_line : Value}
    {ocDLine : Value} {odDLine : Option Addr} {slDLine : Array (Option Value)} {kVDLine dcDLine pmDLine : Value} {anDLine : Option Addr} {cdDLine ctDLine : Value}
    {ocDBent : Value} {odDBent : Option Addr} {slDBent : Array (Option Value)} {kVDBent dcDBent pmDBent : Value} {anDBent : Option Addr} {cdDBent ctDBent : Value}
    {ocDWith_line : Value} {odDWith_line : Option Addr} {slDWith_line : Array (Option Value)} {kVDWith_line dcDWith_line pmDWith_line : Value} {anDWith_line : Option Addr} {cdDWith_line ctDWith_line : Value}
    {ocDDue : Value} {odDDue : Option Addr} {slDDue : Array (Option Value)} {kVDDue dcDDue pmDDue : Value} {anDDue : Option Addr} {cdDDue ctDDue : Value}
    {ocDMade : Value} {odDMade : Option Addr} {slDMade : Array (Option Value)} {kVDMade dcDMade pmDMade : Value} {anDMade : Option Addr} {cdDMade ctDMade : Value}
    {ocDLaw : Value} {odDLaw : Option Addr} {slDLaw : Array (Option Value)} {kVDLaw dcDLaw pmDLaw : Value} {anDLaw : Option Addr} {cdDLaw ctDLaw : Value}
    {tkLONGEST_NAME : Tok}
    {tkMOST_EVENTS : Tok}
    {tkMOST_DIGITS : Tok}
    {oMALFORMED : Obj} {itsMALFORMED : List Value} {nMALFORMED : Nat}
    (aCCn : PySem.W.nsIn K mainGlobals "NameSet" = some (some (.ref Cn)))
    (pgCn : PySem.W.plainGet K Cn Str.empty = true) (hdCn : PySem.W.hasDictIn K Cn = true) (poCn : PySem.W.plainOver K Cn = true) (saCn : PySem.W.findIn K (.ref Cn) "__setattr__" = some (some (.builtin "object.__setattr__"))) (mkCn : PySem.W.makesIn K Cn = true) (kcCn : PySem.W.keepIn K (.ref Cn) = true)
    (haCn : PySem.W.findIn K (.ref Cn) "__class__" = some (some (.builtin "object.__class__"))) (hmCn : PySem.W.mroIn K Cn (.type "object") = some true) (ciCn : PySem.W.isClsIn K Cn = true) (ctCn : PySem.W.typeIn K (.ref Cn) = some (.type "type")) (kLCn : PySem.W.subIn K (.type "list") (.ref Cn) = some false) (kTCn : PySem.W.subIn K (.type "tuple") (.ref Cn) = some false)
    (neCn : PySem.W.findIn K (.ref Cn) "__ne__" = some (some (.builtin "object.__ne__"))) (sfCn : PySem.W.selfFirst K Cn = true)
    (nCnmembers : PySem.W.findIn K (.ref Cn) "members" = some none)
    (kSCn : PySem.W.subIn K (.type "str") (.ref Cn) = some false)
    (iaCn : PySem.W.findIn K (.ref Cn) "__init__" = some (some (.ref fICn))) (iiCn : PySem.W.isFn K (.ref fICn) = true) (ilCn : K.lookup fICn = some ⟨ocCn, odCn, .func (PySem.W.fnOf "__init__" "NameSet.__init__" (defArgs sNameSetInit) (defBody sNameSetInit) (defScope sNameSetInit) (.ref tDCn) kVCn dcCn pmCn anCn cdCn cuCn), slCn⟩) (icCn : PySem.W.codeIn K cdCn "NameSet.__init__" = true) (ikCn : PySem.W.keepIn K (.ref fICn) = true)
    (t1Cn : K.lookup tDCn = some o1Cn) (t2Cn : o1Cn.data = .seq itsCn.toArray n1Cn) (t3Cn : itsCn = [.ref t0Cn]) (t4Cn : K.lookup t0Cn = some o2Cn) (t5Cn : o2Cn.data = .seq ([] : List Value).toArray n2Cn) (t6Cn : o2Cn.cls = .type "tuple")
    (aCCh : PySem.W.nsIn K mainGlobals "History" = some (some (.ref Ch)))
    (pgCh : PySem.W.plainGet K Ch Str.empty = true) (hdCh : PySem.W.hasDictIn K Ch = true) (poCh : PySem.W.plainOver K Ch = true) (saCh : PySem.W.findIn K (.ref Ch) "__setattr__" = some (some (.builtin "object.__setattr__"))) (mkCh : PySem.W.makesIn K Ch = true) (kcCh : PySem.W.keepIn K (.ref Ch) = true)
    (haCh : PySem.W.findIn K (.ref Ch) "__class__" = some (some (.builtin "object.__class__"))) (hmCh : PySem.W.mroIn K Ch (.type "object") = some true) (ciCh : PySem.W.isClsIn K Ch = true) (ctCh : PySem.W.typeIn K (.ref Ch) = some (.type "type")) (kLCh : PySem.W.subIn K (.type "list") (.ref Ch) = some false) (kTCh : PySem.W.subIn K (.type "tuple") (.ref Ch) = some false)
    (neCh : PySem.W.findIn K (.ref Ch) "__ne__" = some (some (.builtin "object.__ne__"))) (sfCh : PySem.W.selfFirst K Ch = true)
    (nChevents : PySem.W.findIn K (.ref Ch) "events" = some none)
    (iaCh : PySem.W.findIn K (.ref Ch) "__init__" = some (some (.ref fICh))) (iiCh : PySem.W.isFn K (.ref fICh) = true) (ilCh : K.lookup fICh = some ⟨ocCh, odCh, .func (PySem.W.fnOf "__init__" "History.__init__" (defArgs sHistoryInit) (defBody sHistoryInit) (defScope sHistoryInit) (.ref tDCh) kVCh dcCh pmCh anCh cdCh cuCh), slCh⟩) (icCh : PySem.W.codeIn K cdCh "History.__init__" = true) (ikCh : PySem.W.keepIn K (.ref fICh) = true)
    (t1Ch : K.lookup tDCh = some o1Ch) (t2Ch : o1Ch.data = .seq itsCh.toArray n1Ch) (t3Ch : itsCh = [.ref t0Ch]) (t4Ch : K.lookup t0Ch = some o2Ch) (t5Ch : o2Ch.data = .seq ([] : List Value).toArray n2Ch) (t6Ch : o2Ch.cls = .type "tuple")
    (rdCh : PySem.W.readsIn K Ch (.type "type") = true) (gtCh : PySem.W.specialIn K (.ref Ch) "__getattribute__" = some (some (.builtin "type.__getattribute__")))
    (cmChparse : PySem.W.findCls K (.ref Ch) (.type "type") "parse" = some (.get (.builtin "classmethod.__get__") (.ref pChparse) .none (.ref Ch))) (rcChparse : PySem.W.recIn K pChparse "classmethod" = some (.ref fChparse :: restChparse)) (fiChparse : PySem.W.fnIn K fChparse = true) (lChparse : K.lookup fChparse = some ⟨ocChparse, odChparse, .func (PySem.W.fnOf "parse" "History.parse" (defArgs sHistoryParse) (defBody sHistoryParse) (defScope sHistoryParse) .none kVChparse dcChparse pmChparse anChparse cdChparse ctChparse), slChparse⟩) (cChparse : PySem.W.codeIn K cdChparse "History.parse" = true) (kChparse : PySem.W.keepIn K (.ref fChparse) = true)
    (aCCI : PySem.W.nsIn K mainGlobals "InvalidHistory" = some (some (.ref CI))) (lCCI : K.lookup CI = some (excClassObj "InvalidHistory" qCI CI NCI bsCI [.ref Me, .type "ValueError", .type "Exception", .type "BaseException", .type "object"] true snCI subCI abCI colCI ddCI uuCI vvCI wwCI xxCI yyCI "ValueError.__new__"))
    (saCI : PySem.W.findIn K (.ref CI) "__setattr__" = some (some (.builtin "object.__setattr__"))) (tyCI : PySem.W.typeIn K (.ref CI) = some (.type "type")) (kcCI : PySem.W.keepIn K (.ref CI) = true)
    (hgCI : PySem.W.findIn K (.ref CI) "__getattribute__" = some (some (.builtin "BaseException.__getattribute__"))) (hkCI : PySem.W.findIn K (.ref CI) "__getattr__" = some none)
    (haCI : PySem.W.findIn K (.ref CI) "__class__" = some (some (.builtin "object.__class__"))) (hdCI : PySem.W.hasDictIn K CI = true) (ciCI : PySem.W.isClsIn K CI = true)
    (nCIline : PySem.W.findIn K (.ref CI) "line" = some none)
    (aICI : PySem.W.findIn K (.ref CI) "__init__" = some (some (.ref fICI))) (lICI : K.lookup fICI = some ⟨ocICI, odICI, .func (PySem.W.fnOf "__init__" "InvalidHistory.__init__" (defArgs sInvalidHistoryInit) (defBody sInvalidHistoryInit) (defScope sInvalidHistoryInit) .none kVICI dcICI pmICI anICI cdICI ctICI), slICI⟩) (cICI : PySem.W.codeIn K cdICI "InvalidHistory.__init__" = true) (kICI : PySem.W.keepIn K (.ref fICI) = true) (iICI : PySem.W.isFn K (.ref fICI) = true) (nICI : PySem.W.fnIn K fICI = true)
    (tICI : PySem.W.typeIn K (.ref fICI) = some (.type "function"))
    (hn : PySem.W.specialIn K (.builtin "object.__class__") "__get__" = some (some (.builtin "getset_descriptor.__get__"))) (htk : PySem.W.takesIn K (.builtin "object.__class__") = some true)
    (aDIs_name : PySem.W.nsIn K mainGlobals "is_name" = some (some (.ref fDIs_name))) (lDIs_name : K.lookup fDIs_name = some ⟨ocDIs_name, odDIs_name, .func (PySem.W.fnOf "is_name" "is_name" (defArgs sIs_name) (defBody sIs_name) (defScope sIs_name) .none kVDIs_name dcDIs_name pmDIs_name anDIs_name cdDIs_name ctDIs_name), slDIs_name⟩) (cDIs_name : PySem.W.codeIn K cdDIs_name "is_name" = true) (kDIs_name : PySem.W.keepIn K (.ref fDIs_name) = true)
    (aDIs_integer : PySem.W.nsIn K mainGlobals "is_integer" = some (some (.ref fDIs_integer))) (lDIs_integer : K.lookup fDIs_integer = some ⟨ocDIs_integer, odDIs_integer, .func (PySem.W.fnOf "is_integer" "is_integer" (defArgs sIs_integer) (defBody sIs_integer) (defScope sIs_integer) .none kVDIs_integer dcDIs_integer pmDIs_integer anDIs_integer cdDIs_integer ctDIs_integer), slDIs_integer⟩) (cDIs_integer : PySem.W.codeIn K cdDIs_integer "is_integer" = true) (kDIs_integer : PySem.W.keepIn K (.ref fDIs_integer) = true)
    (aDIs_number : PySem.W.nsIn K mainGlobals "is_number" = some (some (.ref fDIs_number))) (lDIs_number : K.lookup fDIs_number = some ⟨ocDIs_number, odDIs_number, .func (PySem.W.fnOf "is_number" "is_number" (defArgs sIs_number) (defBody sIs_number) (defScope sIs_number) .none kVDIs_number dcDIs_number pmDIs_number anDIs_number cdDIs_number ctDIs_number), slDIs_number⟩) (cDIs_number : PySem.W.codeIn K cdDIs_number "is_number" = true) (kDIs_number : PySem.W.keepIn K (.ref fDIs_number) = true)
    (aDIs_numeral : PySem.W.nsIn K mainGlobals "is_numeral" = some (some (.ref fDIs_numeral))) (lDIs_numeral : K.lookup fDIs_numeral = some ⟨ocDIs_numeral, odDIs_numeral, .func (PySem.W.fnOf "is_numeral" "is_numeral" (defArgs sIs_numeral) (defBody sIs_numeral) (defScope sIs_numeral) .none kVDIs_numeral dcDIs_numeral pmDIs_numeral anDIs_numeral cdDIs_numeral ctDIs_numeral), slDIs_numeral⟩) (cDIs_numeral : PySem.W.codeIn K cdDIs_numeral "is_numeral" = true) (kDIs_numeral : PySem.W.keepIn K (.ref fDIs_numeral) = true)
    (aDAre_places : PySem.W.nsIn K mainGlobals "_are_places" = some (some (.ref fDAre_places))) (lDAre_places : K.lookup fDAre_places = some ⟨ocDAre_places, odDAre_places, .func (PySem.W.fnOf "_are_places" "_are_places" (defArgs sAre_places) (defBody sAre_places) (defScope sAre_places) .none kVDAre_places dcDAre_places pmDAre_places anDAre_places cdDAre_places ctDAre_places), slDAre_places⟩) (cDAre_places : PySem.W.codeIn K cdDAre_places "_are_places" = true) (kDAre_places : PySem.W.keepIn K (.ref fDAre_places) = true)
    (aDIs_event : PySem.W.nsIn K mainGlobals "_is_event" = some (some (.ref fDIs_event))) (lDIs_event : K.lookup fDIs_event = some ⟨ocDIs_event, odDIs_event, .func (PySem.W.fnOf "_is_event" "_is_event" (defArgs sIs_event) (defBody sIs_event) (defScope sIs_event) .none kVDIs_event dcDIs_event pmDIs_event anDIs_event cdDIs_event ctDIs_event), slDIs_event⟩) (cDIs_event : PySem.W.codeIn K cdDIs_event "_is_event" = true) (kDIs_event : PySem.W.keepIn K (.ref fDIs_event) = true)
    (aDOrdered_event : PySem.W.nsIn K mainGlobals "_ordered_event" = some (some (.ref fDOrdered_event))) (lDOrdered_event : K.lookup fDOrdered_event = some ⟨ocDOrdered_event, odDOrdered_event, .func (PySem.W.fnOf "_ordered_event" "_ordered_event" (defArgs sOrdered_event) (defBody sOrdered_event) (defScope sOrdered_event) .none kVDOrdered_event dcDOrdered_event pmDOrdered_event anDOrdered_event cdDOrdered_event ctDOrdered_event), slDOrdered_event⟩) (cDOrdered_event : PySem.W.codeIn K cdDOrdered_event "_ordered_event" = true) (kDOrdered_event : PySem.W.keepIn K (.ref fDOrdered_event) = true)
    (aDParsed_event : PySem.W.nsIn K mainGlobals "_parsed_event" = some (some (.ref fDParsed_event))) (lDParsed_event : K.lookup fDParsed_event = some ⟨ocDParsed_event, odDParsed_event, .func (PySem.W.fnOf "_parsed_event" "_parsed_event" (defArgs sParsed_event) (defBody sParsed_event) (defScope sParsed_event) .none kVDParsed_event dcDParsed_event pmDParsed_event anDParsed_event cdDParsed_event ctDParsed_event), slDParsed_event⟩) (cDParsed_event : PySem.W.codeIn K cdDParsed_event "_parsed_event" = true) (kDParsed_event : PySem.W.keepIn K (.ref fDParsed_event) = true)
    (aDSource : PySem.W.nsIn K mainGlobals "_law_source" = some (some (.ref fDSource))) (lDSource : K.lookup fDSource = some ⟨ocDSource, odDSource, .func (PySem.W.fnOf "_law_source" "_law_source" (defArgs sSource) (defBody sSource) (defScope sSource) .none kVDSource dcDSource pmDSource anDSource cdDSource ctDSource), slDSource⟩) (cDSource : PySem.W.codeIn K cdDSource "_law_source" = true) (kDSource : PySem.W.keepIn K (.ref fDSource) = true)
    (aDDraw : PySem.W.nsIn K mainGlobals "_law_draw" = some (some (.ref fDDraw))) (lDDraw : K.lookup fDDraw = some ⟨ocDDraw, odDDraw, .func (PySem.W.fnOf "_law_draw" "_law_draw" (defArgs sDraw) (defBody sDraw) (defScope sDraw) .none kVDDraw dcDDraw pmDDraw anDDraw cdDDraw ctDDraw), slDDraw⟩) (cDDraw : PySem.W.codeIn K cdDDraw "_law_draw" = true) (kDDraw : PySem.W.keepIn K (.ref fDDraw) = true)
    (aDName : PySem.W.nsIn K mainGlobals "_law_name" = some (some (.ref fDName))) (lDName : K.lookup fDName = some ⟨ocDName, odDName, .func (PySem.W.fnOf "_law_name" "_law_name" (defArgs sName) (defBody sName) (defScope sName) .none kVDName dcDName pmDName anDName cdDName ctDName), slDName⟩) (cDName : PySem.W.codeIn K cdDName "_law_name" = true) (kDName : PySem.W.keepIn K (.ref fDName) = true)
    (aDNames : PySem.W.nsIn K mainGlobals "_law_names" = some (some (.ref fDNames))) (lDNames : K.lookup fDNames = some ⟨ocDNames, odDNames, .func (PySem.W.fnOf "_law_names" "_law_names" (defArgs sNames) (defBody sNames) (defScope sNames) .none kVDNames dcDNames pmDNames anDNames cdDNames ctDNames), slDNames⟩) (cDNames : PySem.W.codeIn K cdDNames "_law_names" = true) (kDNames : PySem.W.keepIn K (.ref fDNames) = true)
    (aDNumber : PySem.W.nsIn K mainGlobals "_law_number" = some (some (.ref fDNumber))) (lDNumber : K.lookup fDNumber = some ⟨ocDNumber, odDNumber, .func (PySem.W.fnOf "_law_number" "_law_number" (defArgs sNumber) (defBody sNumber) (defScope sNumber) .none kVDNumber dcDNumber pmDNumber anDNumber cdDNumber ctDNumber), slDNumber⟩) (cDNumber : PySem.W.codeIn K cdDNumber "_law_number" = true) (kDNumber : PySem.W.keepIn K (.ref fDNumber) = true)
    (aDLIsName : PySem.W.nsIn K mainGlobals "_law_is_name" = some (some (.ref fDLIsName))) (lDLIsName : K.lookup fDLIsName = some ⟨ocDLIsName, odDLIsName, .func (PySem.W.fnOf "_law_is_name" "_law_is_name" (defArgs sLIsName) (defBody sLIsName) (defScope sLIsName) .none kVDLIsName dcDLIsName pmDLIsName anDLIsName cdDLIsName ctDLIsName), slDLIsName⟩) (cDLIsName : PySem.W.codeIn K cdDLIsName "_law_is_name" = true) (kDLIsName : PySem.W.keepIn K (.ref fDLIsName) = true)
    (aDGood : PySem.W.nsIn K mainGlobals "_law_good" = some (some (.ref fDGood))) (lDGood : K.lookup fDGood = some ⟨ocDGood, odDGood, .func (PySem.W.fnOf "_law_good" "_law_good" (defArgs sGood) (defBody sGood) (defScope sGood) .none kVDGood dcDGood pmDGood anDGood cdDGood ctDGood), slDGood⟩) (cDGood : PySem.W.codeIn K cdDGood "_law_good" = true) (kDGood : PySem.W.keepIn K (.ref fDGood) = true)
    (aDOdd : PySem.W.nsIn K mainGlobals "_law_odd" = some (some (.ref fDOdd))) (lDOdd : K.lookup fDOdd = some ⟨ocDOdd, odDOdd, .func (PySem.W.fnOf "_law_odd" "_law_odd" (defArgs sOdd) (defBody sOdd) (defScope sOdd) .none kVDOdd dcDOdd pmDOdd anDOdd cdDOdd ctDOdd), slDOdd⟩) (cDOdd : PySem.W.codeIn K cdDOdd "_law_odd" = true) (kDOdd : PySem.W.keepIn K (.ref fDOdd) = true)
    (aDValid : PySem.W.nsIn K mainGlobals "_law_valid" = some (some (.ref fDValid))) (lDValid : K.lookup fDValid = some ⟨ocDValid, odDValid, .func (PySem.W.fnOf "_law_valid" "_law_valid" (defArgs sValid) (defBody sValid) (defScope sValid) .none kVDValid dcDValid pmDValid anDValid cdDValid ctDValid), slDValid⟩) (cDValid : PySem.W.codeIn K cdDValid "_law_valid" = true) (kDValid : PySem.W.keepIn K (.ref fDValid) = true)
    (aDRead_number : PySem.W.nsIn K mainGlobals "_law_read_number" = some (some (.ref fDRead_number))) (lDRead_number : K.lookup fDRead_number = some ⟨ocDRead_number, odDRead_number, .func (PySem.W.fnOf "_law_read_number" "_law_read_number" (defArgs sRead_number) (defBody sRead_number) (defScope sRead_number) .none kVDRead_number dcDRead_number pmDRead_number anDRead_number cdDRead_number ctDRead_number), slDRead_number⟩) (cDRead_number : PySem.W.codeIn K cdDRead_number "_law_read_number" = true) (kDRead_number : PySem.W.keepIn K (.ref fDRead_number) = true)
    (aDRead_line : PySem.W.nsIn K mainGlobals "_law_read_line" = some (some (.ref fDRead_line))) (lDRead_line : K.lookup fDRead_line = some ⟨ocDRead_line, odDRead_line, .func (PySem.W.fnOf "_law_read_line" "_law_read_line" (defArgs sRead_line) (defBody sRead_line) (defScope sRead_line) .none kVDRead_line dcDRead_line pmDRead_line anDRead_line cdDRead_line ctDRead_line), slDRead_line⟩) (cDRead_line : PySem.W.codeIn K cdDRead_line "_law_read_line" = true) (kDRead_line : PySem.W.keepIn K (.ref fDRead_line) = true)
    (aDLine : PySem.W.nsIn K mainGlobals "_law_line" = some (some (.ref fDLine))) (lDLine : K.lookup fDLine = some ⟨ocDLine, odDLine, .func (PySem.W.fnOf "_law_line" "_law_line" (defArgs sLine) (defBody sLine) (defScope sLine) .none kVDLine dcDLine pmDLine anDLine cdDLine ctDLine), slDLine⟩) (cDLine : PySem.W.codeIn K cdDLine "_law_line" = true) (kDLine : PySem.W.keepIn K (.ref fDLine) = true)
    (aDBent : PySem.W.nsIn K mainGlobals "_law_bent" = some (some (.ref fDBent))) (lDBent : K.lookup fDBent = some ⟨ocDBent, odDBent, .func (PySem.W.fnOf "_law_bent" "_law_bent" (defArgs sBent) (defBody sBent) (defScope sBent) .none kVDBent dcDBent pmDBent anDBent cdDBent ctDBent), slDBent⟩) (cDBent : PySem.W.codeIn K cdDBent "_law_bent" = true) (kDBent : PySem.W.keepIn K (.ref fDBent) = true)
    (aDWith_line : PySem.W.nsIn K mainGlobals "_law_with_line" = some (some (.ref fDWith_line))) (lDWith_line : K.lookup fDWith_line = some ⟨ocDWith_line, odDWith_line, .func (PySem.W.fnOf "_law_with_line" "_law_with_line" (defArgs sWith_line) (defBody sWith_line) (defScope sWith_line) .none kVDWith_line dcDWith_line pmDWith_line anDWith_line cdDWith_line ctDWith_line), slDWith_line⟩) (cDWith_line : PySem.W.codeIn K cdDWith_line "_law_with_line" = true) (kDWith_line : PySem.W.keepIn K (.ref fDWith_line) = true)
    (aDDue : PySem.W.nsIn K mainGlobals "_law_due" = some (some (.ref fDDue))) (lDDue : K.lookup fDDue = some ⟨ocDDue, odDDue, .func (PySem.W.fnOf "_law_due" "_law_due" (defArgs sDue) (defBody sDue) (defScope sDue) .none kVDDue dcDDue pmDDue anDDue cdDDue ctDDue), slDDue⟩) (cDDue : PySem.W.codeIn K cdDDue "_law_due" = true) (kDDue : PySem.W.keepIn K (.ref fDDue) = true)
    (aDMade : PySem.W.nsIn K mainGlobals "_law_made" = some (some (.ref fDMade))) (lDMade : K.lookup fDMade = some ⟨ocDMade, odDMade, .func (PySem.W.fnOf "_law_made" "_law_made" (defArgs sMade) (defBody sMade) (defScope sMade) .none kVDMade dcDMade pmDMade anDMade cdDMade ctDMade), slDMade⟩) (cDMade : PySem.W.codeIn K cdDMade "_law_made" = true) (kDMade : PySem.W.keepIn K (.ref fDMade) = true)
    (aDLaw : PySem.W.nsIn K mainGlobals "law" = some (some (.ref fDLaw))) (lDLaw : K.lookup fDLaw = some ⟨ocDLaw, odDLaw, .func (PySem.W.fnOf "law" "law" (defArgs sLaw) (defBody sLaw) (defScope sLaw) .none kVDLaw dcDLaw pmDLaw anDLaw cdDLaw ctDLaw), slDLaw⟩) (cDLaw : PySem.W.codeIn K cdDLaw "law" = true) (kDLaw : PySem.W.keepIn K (.ref fDLaw) = true)
    (aLONGEST_NAME : PySem.W.nsIn K mainGlobals "LONGEST_NAME" = some (some (.int 8 tkLONGEST_NAME)))
    (aMOST_EVENTS : PySem.W.nsIn K mainGlobals "MOST_EVENTS" = some (some (.int 200 tkMOST_EVENTS)))
    (aMOST_DIGITS : PySem.W.nsIn K mainGlobals "MOST_DIGITS" = some (some (.int 60 tkMOST_DIGITS)))
    (aMALFORMED : PySem.W.nsIn K mainGlobals "MALFORMED" = some (some (.ref xMALFORMED))) (lMALFORMED : K.lookup xMALFORMED = some oMALFORMED) (dMALFORMED : oMALFORMED.data = .seq itsMALFORMED.toArray nMALFORMED) (iMALFORMED : itsMALFORMED = []) (cMALFORMED : oMALFORMED.cls = .type "tuple")
    (zint : PySem.W.nsIn K mainGlobals "int" = some none)
    (zenumerate : PySem.W.nsIn K mainGlobals "enumerate" = some none)
    (zrange : PySem.W.nsIn K mainGlobals "range" = some none)
    (zlist : PySem.W.nsIn K mainGlobals "list" = some none)
    (ztuple : PySem.W.nsIn K mainGlobals "tuple" = some none)
    (zsorted : PySem.W.nsIn K mainGlobals "sorted" = some none)
    (zstr : PySem.W.nsIn K mainGlobals "str" = some none)
    (zall : PySem.W.nsIn K mainGlobals "all" = some none)
    (zisinstance : PySem.W.nsIn K mainGlobals "isinstance" = some none)
    (zbool : PySem.W.nsIn K mainGlobals "bool" = some none)
    (zlen : PySem.W.nsIn K mainGlobals "len" = some none)
    (zset : PySem.W.nsIn K mainGlobals "set" = some none)
    (zabs : PySem.W.nsIn K mainGlobals "abs" = some none) :
    ∃ fd : FuncData, (∀ (s : Shared) (v : Value), BindsTo s fd ⟨[v], []⟩ [("_law_script", v)]) ∧ ∀ base : Heap, K.In base → base.Ns mainGlobals mg → FnOk l.prog w K mg base CX0 8 fa fd ["_law_script"] (spLaw K) := by
  have mICI : MetF K CI "__init__" "InvalidHistory.__init__" sInvalidHistoryInit fICI := ⟨⟨_, _, _, _, _, _, _, _, _, aICI, lICI, cICI, kICI, iICI, nICI⟩⟩
  have DCI : ClF K Me CI "InvalidHistory" := ⟨⟨_, _, _, _, _, _, _, _, _, _, _, _, _, lCCI⟩, saCI, tyCI, kcCI, hgCI, hkCI, haCI, hdCI⟩
  have dDIs_name : DefF K "is_name" sIs_name fDIs_name := ⟨⟨_, _, _, _, _, _, _, _, _, aDIs_name, lDIs_name, cDIs_name, kDIs_name⟩⟩
  have dDIs_integer : DefF K "is_integer" sIs_integer fDIs_integer := ⟨⟨_, _, _, _, _, _, _, _, _, aDIs_integer, lDIs_integer, cDIs_integer, kDIs_integer⟩⟩
  have dDIs_number : DefF K "is_number" sIs_number fDIs_number := ⟨⟨_, _, _, _, _, _, _, _, _, aDIs_number, lDIs_number, cDIs_number, kDIs_number⟩⟩
  have dDIs_numeral : DefF K "is_numeral" sIs_numeral fDIs_numeral := ⟨⟨_, _, _, _, _, _, _, _, _, aDIs_numeral, lDIs_numeral, cDIs_numeral, kDIs_numeral⟩⟩
  have dDAre_places : DefF K "_are_places" sAre_places fDAre_places := ⟨⟨_, _, _, _, _, _, _, _, _, aDAre_places, lDAre_places, cDAre_places, kDAre_places⟩⟩
  have dDIs_event : DefF K "_is_event" sIs_event fDIs_event := ⟨⟨_, _, _, _, _, _, _, _, _, aDIs_event, lDIs_event, cDIs_event, kDIs_event⟩⟩
  have dDOrdered_event : DefF K "_ordered_event" sOrdered_event fDOrdered_event := ⟨⟨_, _, _, _, _, _, _, _, _, aDOrdered_event, lDOrdered_event, cDOrdered_event, kDOrdered_event⟩⟩
  have dDParsed_event : DefF K "_parsed_event" sParsed_event fDParsed_event := ⟨⟨_, _, _, _, _, _, _, _, _, aDParsed_event, lDParsed_event, cDParsed_event, kDParsed_event⟩⟩
  have dDSource : DefF K "_law_source" sSource fDSource := ⟨⟨_, _, _, _, _, _, _, _, _, aDSource, lDSource, cDSource, kDSource⟩⟩
  have dDDraw : DefF K "_law_draw" sDraw fDDraw := ⟨⟨_, _, _, _, _, _, _, _, _, aDDraw, lDDraw, cDDraw, kDDraw⟩⟩
  have dDName : DefF K "_law_name" sName fDName := ⟨⟨_, _, _, _, _, _, _, _, _, aDName, lDName, cDName, kDName⟩⟩
  have dDNames : DefF K "_law_names" sNames fDNames := ⟨⟨_, _, _, _, _, _, _, _, _, aDNames, lDNames, cDNames, kDNames⟩⟩
  have dDNumber : DefF K "_law_number" sNumber fDNumber := ⟨⟨_, _, _, _, _, _, _, _, _, aDNumber, lDNumber, cDNumber, kDNumber⟩⟩
  have dDLIsName : DefF K "_law_is_name" sLIsName fDLIsName := ⟨⟨_, _, _, _, _, _, _, _, _, aDLIsName, lDLIsName, cDLIsName, kDLIsName⟩⟩
  have dDGood : DefF K "_law_good" sGood fDGood := ⟨⟨_, _, _, _, _, _, _, _, _, aDGood, lDGood, cDGood, kDGood⟩⟩
  have dDOdd : DefF K "_law_odd" sOdd fDOdd := ⟨⟨_, _, _, _, _, _, _, _, _, aDOdd, lDOdd, cDOdd, kDOdd⟩⟩
  have dDValid : DefF K "_law_valid" sValid fDValid := ⟨⟨_, _, _, _, _, _, _, _, _, aDValid, lDValid, cDValid, kDValid⟩⟩
  have dDRead_number : DefF K "_law_read_number" sRead_number fDRead_number := ⟨⟨_, _, _, _, _, _, _, _, _, aDRead_number, lDRead_number, cDRead_number, kDRead_number⟩⟩
  have dDRead_line : DefF K "_law_read_line" sRead_line fDRead_line := ⟨⟨_, _, _, _, _, _, _, _, _, aDRead_line, lDRead_line, cDRead_line, kDRead_line⟩⟩
  have dDLine : DefF K "_law_line" sLine fDLine := ⟨⟨_, _, _, _, _, _, _, _, _, aDLine, lDLine, cDLine, kDLine⟩⟩
  have dDBent : DefF K "_law_bent" sBent fDBent := ⟨⟨_, _, _, _, _, _, _, _, _, aDBent, lDBent, cDBent, kDBent⟩⟩
  have dDWith_line : DefF K "_law_with_line" sWith_line fDWith_line := ⟨⟨_, _, _, _, _, _, _, _, _, aDWith_line, lDWith_line, cDWith_line, kDWith_line⟩⟩
  have dDDue : DefF K "_law_due" sDue fDDue := ⟨⟨_, _, _, _, _, _, _, _, _, aDDue, lDDue, cDDue, kDDue⟩⟩
  have dDMade : DefF K "_law_made" sMade fDMade := ⟨⟨_, _, _, _, _, _, _, _, _, aDMade, lDMade, cDMade, kDMade⟩⟩
  have dDLaw : DefF K "law" sLaw fDLaw := ⟨⟨_, _, _, _, _, _, _, _, _, aDLaw, lDLaw, cDLaw, kDLaw⟩⟩
  have vLONGEST_NAME : mg "LONGEST_NAME" = some (.int 8 tkLONGEST_NAME) := PySem.W.mg_of X G aLONGEST_NAME
  have vMOST_EVENTS : mg "MOST_EVENTS" = some (.int 200 tkMOST_EVENTS) := PySem.W.mg_of X G aMOST_EVENTS
  have vMOST_DIGITS : mg "MOST_DIGITS" = some (.int 60 tkMOST_DIGITS) := PySem.W.mg_of X G aMOST_DIGITS
  have vMALFORMED : mg "MALFORMED" = some (.ref xMALFORMED) := PySem.W.mg_of X G aMALFORMED
  have qMALFORMED : ∀ H, SqT K H xMALFORMED (([] : List Str).map V.str) := fun H => .inr ⟨oMALFORMED, itsMALFORMED.toArray, nMALFORMED, lMALFORMED, cMALFORMED, dMALFORMED, by rw [iMALFORMED]; show 0 ≤ sizeLine; decide, by rw [iMALFORMED]; exact .nil⟩
  have vint : mg "int" = none := PySem.W.mg_none_of X G zint
  have venumerate : mg "enumerate" = none := PySem.W.mg_none_of X G zenumerate
  have vrange : mg "range" = none := PySem.W.mg_none_of X G zrange
  have vlist : mg "list" = none := PySem.W.mg_none_of X G zlist
  have vtuple : mg "tuple" = none := PySem.W.mg_none_of X G ztuple
  have vsorted : mg "sorted" = none := PySem.W.mg_none_of X G zsorted
  have vstr : mg "str" = none := PySem.W.mg_none_of X G zstr
  have vall : mg "all" = none := PySem.W.mg_none_of X G zall
  have visinstance : mg "isinstance" = none := PySem.W.mg_none_of X G zisinstance
  have vbool : mg "bool" = none := PySem.W.mg_none_of X G zbool
  have vlen : mg "len" = none := PySem.W.mg_none_of X G zlen
  have vset : mg "set" = none := PySem.W.mg_none_of X G zset
  have vabs : mg "abs" = none := PySem.W.mg_none_of X G zabs
  have q0Cn : ∀ H, SqT K H t0Cn [] := fun H => .inr ⟨o2Cn, #[], n2Cn, t4Cn, t6Cn, t5Cn, Nat.zero_le _, .nil⟩
  subst t3Cn
  have insCn : C8.InsC K Cn := ⟨⟨pgCn, hdCn, poCn, saCn⟩, haCn, hn, htk, hmCn, kit_self⟩
  have TCn : NsC K mg Cn := ⟨insCn, nCnmembers, PySem.W.mg_of X G aCCn, kit_own ciCn ctCn kLCn, kit_own ciCn ctCn kTCn, notFirst_of kTCn, notFirst_of kLCn, visinstance, vtuple, vsorted, vset, vall, vlen⟩
  have q0Ch : ∀ H, SqT K H t0Ch [] := fun H => .inr ⟨o2Ch, #[], n2Ch, t4Ch, t6Ch, t5Ch, Nat.zero_le _, .nil⟩
  subst t3Ch
  have insCh : C8.InsC K Ch := ⟨⟨pgCh, hdCh, poCh, saCh⟩, haCh, hn, htk, hmCh, kit_self⟩
  have TCh : HsC K mg Ch := ⟨insCh, nChevents, PySem.W.mg_of X G aCCh⟩
  refine dDLaw.law X G hfa (fun _ _ _ _ _ _ s v => .of_eq rfl) fun base _ _ fd FL => ?_
  have eCI : ErC l.prog w K mg base "InvalidHistory" CI ["self", "line"] (spIni1 CI "line") := mICI.erC DCI ciCI tICI (PySem.W.mg_of X G aCCI) (fun _ _ _ _ _ _ us hl => match us, hl with | [_, _], _ => rfl) fun fd F => ok_InvalidHistory F DCI.oex nCIline
  have c_is_name : Cal l.prog w K mg base CX0 1 "is_name" ["value"] spIsNameG := dDIs_name.cal X G (fun _ _ _ _ _ _ us hl => match us, hl with | [_], _ => rfl) fun fd F => ok_is_nameG F visinstance vstr vlen vall vLONGEST_NAME
  have c_is_integer : Cal l.prog w K mg base CX0 1 "is_integer" ["value"] spIsIntG := dDIs_integer.cal X G (fun _ _ _ _ _ _ us hl => match us, hl with | [_], _ => rfl) fun fd F => ok_is_integerG F visinstance vint vbool
  have c_is_number : Cal l.prog w K mg base CX0 2 "is_number" ["value"] spIsNumG := dDIs_number.cal X G (fun _ _ _ _ _ _ us hl => match us, hl with | [_], _ => rfl) fun fd F => ok_is_numberG F vabs c_is_integer
  have c_is_numeral : Cal l.prog w K mg base CX0 1 "is_numeral" ["text"] spIsNumeral := dDIs_numeral.cal X G (fun _ _ _ _ _ _ us hl => match us, hl with | [_], _ => rfl) fun fd F => ok_is_numeral F vlen vall vMOST_DIGITS
  have FICn : FunD K "__init__" "NameSet.__init__" (defArgs sNameSetInit) (defBody sNameSetInit) (defScope sNameSetInit) [.ref t0Cn] [] fICn _ := ⟨⟨ocCn, odCn, .ref tDCn, kVCn, dcCn, pmCn, anCn, cdCn, cuCn, slCn, rfl, ilCn, icCn, .inr ⟨by simp, tDCn, o1Cn, _, n1Cn, rfl, t1Cn, t2Cn, .cons rfl .nil⟩, .inl rfl⟩, ikCn⟩
  have okICn : FnOk l.prog w K mg base CX0 1 fICn _ ["self", "names"] (spNsInit K Cn) := ok_nsInit FICn TCn
  obtain ⟨ds1Cn, r1Cn, b1Cn⟩ := FICn.binds1 (ps := ["self", "names"]) 2 1 (by simp) rfl fun _ _ _ _ _ _ _ us its hu hi => match us, its, hu, hi with | [_, _], [_], _, _ => ⟨_, rfl, rfl⟩
  obtain ⟨ds0Cn, r0Cn, b0Cn⟩ := FICn.binds1 (ps := ["self", "names"]) 1 0 (by simp) rfl fun _ _ _ _ _ _ _ us its hu hi => match us, its, hu, hi with | [_], [_], _, _ => ⟨_, rfl, rfl⟩
  have mk1Cn : CalC l.prog w K mg base CX0 1 "NameSet" Cn ["self", "names"] (spNsInit K Cn) [] := ⟨⟨fICn, _, ds1Cn, ⟨mkCn, iaCn, iiCn, kcCn⟩, okICn, PySem.W.mg_of X G aCCn, b1Cn, r1Cn⟩⟩
  have mk0Cn : CalC l.prog w K mg base CX0 1 "NameSet" Cn ["self", "names"] (spNsInit K Cn) [.ref t0Cn] := ⟨⟨fICn, _, ds0Cn, ⟨mkCn, iaCn, iiCn, kcCn⟩, okICn, PySem.W.mg_of X G aCCn, b0Cn, r0Cn⟩⟩
  have c__are_places : Cal l.prog w K mg base CX0 2 "_are_places" ["places"] spPl := dDAre_places.cal X G (fun _ _ _ _ _ _ us hl => match us, hl with | [_], _ => rfl) fun fd F => ok_pl F TCn (kit_own ciCn ctCn kSCn) vlist c_is_name
  have c__is_event : Cal l.prog w K mg base CX0 3 "_is_event" ["event"] (spIsEvent K) := dDIs_event.cal X G (fun _ _ _ _ _ _ us hl => match us, hl with | [_], _ => rfl) fun fd F => ok_isEvent F visinstance vtuple vlen c_is_name c_is_number c__are_places
  have c__ordered_event : Cal l.prog w K mg base CX0 3 "_ordered_event" ["event"] (spOrd K) := dDOrdered_event.cal X G (fun _ _ _ _ _ _ us hl => match us, hl with | [_], _ => rfl) fun fd F => ok_ord F TCn mk1Cn
  have FICh : FunD K "__init__" "History.__init__" (defArgs sHistoryInit) (defBody sHistoryInit) (defScope sHistoryInit) [.ref t0Ch] [] fICh _ := ⟨⟨ocCh, odCh, .ref tDCh, kVCh, dcCh, pmCh, anCh, cdCh, cuCh, slCh, rfl, ilCh, icCh, .inr ⟨by simp, tDCh, o1Ch, _, n1Ch, rfl, t1Ch, t2Ch, .cons rfl .nil⟩, .inl rfl⟩, ikCh⟩
  have okICh : FnOk l.prog w K mg base (L2.CX l.prog w) 4 fICh _ ["self", "events"] (spHsInit K Ch CI) := ok_hsInit FICh TCh eCI venumerate vtuple vMOST_EVENTS c__is_event c__ordered_event
  obtain ⟨ds1Ch, r1Ch, b1Ch⟩ := FICh.binds1 (ps := ["self", "events"]) 2 1 (by simp) rfl fun _ _ _ _ _ _ _ us its hu hi => match us, its, hu, hi with | [_, _], [_], _, _ => ⟨_, rfl, rfl⟩
  obtain ⟨ds0Ch, r0Ch, b0Ch⟩ := FICh.binds1 (ps := ["self", "events"]) 1 0 (by simp) rfl fun _ _ _ _ _ _ _ us its hu hi => match us, its, hu, hi with | [_], [_], _, _ => ⟨_, rfl, rfl⟩
  have mk1Ch : CalC l.prog w K mg base (L2.CX l.prog w) 4 "History" Ch ["self", "events"] (spHsInit K Ch CI) [] := ⟨⟨fICh, _, ds1Ch, ⟨mkCh, iaCh, iiCh, kcCh⟩, okICh, PySem.W.mg_of X G aCCh, b1Ch, r1Ch⟩⟩
  have mk0Ch : CalC l.prog w K mg base (L2.CX l.prog w) 4 "History" Ch ["self", "events"] (spHsInit K Ch CI) [.ref t0Ch] := ⟨⟨fICh, _, ds0Ch, ⟨mkCh, iaCh, iiCh, kcCh⟩, okICh, PySem.W.mg_of X G aCCh, b0Ch, r0Ch⟩⟩
  have c__parsed_event : Cal l.prog w K mg base CX0 2 "_parsed_event" ["line"] (spPEv K) := dDParsed_event.cal X G (fun _ _ _ _ _ _ us hl => match us, hl with | [_], _ => rfl) fun fd F => ok_pev F vlen vint vMALFORMED qMALFORMED c_is_numeral
  have q0Ch : ∀ H, SqT K H t0Ch [] := fun H => .inr ⟨o2Ch, #[], n2Ch, t4Ch, t6Ch, t5Ch, Nat.zero_le _, .nil⟩
  have CRChparse : ClX.CRead K Ch (.type "type") := ⟨rdCh, gtCh⟩
  have CMChparse : ClX.CMet K Ch (.type "type") "parse" pChparse fChparse := ⟨cmChparse, ⟨restChparse, rcChparse⟩, fiChparse⟩
  have CFChparse : FnR l.prog w K mg base (L2.CX l.prog w) 6 fChparse (spHsParse K Ch CI) := by
    have F := fun_mk (x := "parse") (qual := "History.parse") (st := sHistoryParse) lChparse cChparse kChparse
    have ok : FnOk l.prog w K mg base (L2.CX l.prog w) 6 fChparse _ ["cls", "text"] (spHsParse K Ch CI) := ok_hsParse F mk1Ch mk0Ch q0Ch c__parsed_event
    exact (ok.raw (F.binds (fun _ _ _ _ _ _ us hl => match us, hl with | [_, _], _ => rfl)) .nil).imp fun vs H Q E h => by rw [List.append_nil]; exact h
  have c_source : Cal l.prog w K mg base CX0 1 "_law_source" ["_law_script"] (spSource K) := dDSource.cal X G (fun _ _ _ _ _ _ us hl => match us, hl with | [_], _ => rfl) fun fd F => ok_source F vint venumerate
  have c_draw : Cal l.prog w K mg base CX0 1 "_law_draw" ["_law_source_here", "_law_many"] spDraw := dDDraw.cal X G (fun _ _ _ _ _ _ us hl => match us, hl with | [_, _], _ => rfl) fun fd F => ok_draw F vint
  have c_name : Cal l.prog w K mg base CX0 2 "_law_name" ["_law_source_here", "_law_taken"] (spName K) := dDName.cal X G (fun _ _ _ _ _ _ us hl => match us, hl with | [_, _], _ => rfl) fun fd F => ok_name F c_draw vrange
  have c_names : Cal l.prog w K mg base CX0 3 "_law_names" ["_law_source_here", "_law_many"] spNames := dDNames.cal X G (fun _ _ _ _ _ _ us hl => match us, hl with | [_, _], _ => rfl) fun fd F => ok_names F c_name vrange vlist
  have c_number : Cal l.prog w K mg base CX0 2 "_law_number" ["_law_source_here"] spLNum := dDNumber.cal X G (fun _ _ _ _ _ _ us hl => match us, hl with | [_], _ => rfl) fun fd F => ok_lnum F c_draw
  have c_is_name : Cal l.prog w K mg base CX0 1 "_law_is_name" ["_law_thing"] spIsNameG := dDLIsName.cal X G (fun _ _ _ _ _ _ us hl => match us, hl with | [_], _ => rfl) fun fd F => ok_lis_nameG F visinstance vstr vlen vall
  have c_good : Cal l.prog w K mg base CX0 4 "_law_good" ["_law_source_here"] (spGood K) := dDGood.cal X G (fun _ _ _ _ _ _ us hl => match us, hl with | [_], _ => rfl) fun fd F => ok_good F vrange vtuple c_draw c_names c_number
  have c_odd : Cal l.prog w K mg base CX0 2 "_law_odd" ["_law_source_here"] (spOddE K) := dDOdd.cal X G (fun _ _ _ _ _ _ us hl => match us, hl with | [_], _ => rfl) fun fd F => ok_odd F vlen c_draw
  have c_valid : Cal l.prog w K mg base CX0 2 "_law_valid" ["_law_event"] (spValid K) := dDValid.cal X G (fun _ _ _ _ _ _ us hl => match us, hl with | [_], _ => rfl) fun fd F => ok_valid F visinstance vtuple vlen vint vbool vall c_is_name
  have c_read_number : Cal l.prog w K mg base CX0 1 "_law_read_number" ["_law_text"] spRdNum := dDRead_number.cal X G (fun _ _ _ _ _ _ us hl => match us, hl with | [_], _ => rfl) fun fd F => ok_rdnum F vint vstr vlen vall
  have c_read_line : Cal l.prog w K mg base CX0 2 "_law_read_line" ["_law_line_here"] (spRdLine K) := dDRead_line.cal X G (fun _ _ _ _ _ _ us hl => match us, hl with | [_], _ => rfl) fun fd F => ok_rdline F vlen vtuple c_read_number
  have c_line : Cal l.prog w K mg base CX0 1 "_law_line" ["_law_event"] (spLineE K) := dDLine.cal X G (fun _ _ _ _ _ _ us hl => match us, hl with | [_], _ => rfl) fun fd F => ok_line F vstr vlen vlist
  have c_bent : Cal l.prog w K mg base CX0 2 "_law_bent" ["_law_source_here", "_law_text"] spBent := dDBent.cal X G (fun _ _ _ _ _ _ us hl => match us, hl with | [_, _], _ => rfl) fun fd F => ok_bent F c_draw vlen vint
  have c_with_line : Cal l.prog w K mg base CX0 2 "_law_with_line" ["_law_source_here", "_law_text"] spWith := dDWith_line.cal X G (fun _ _ _ _ _ _ us hl => match us, hl with | [_, _], _ => rfl) fun fd F => ok_with F c_draw vlen
  have c_due : Cal l.prog w K mg base CX0 3 "_law_due" ["_law_events"] (spDue K) := dDDue.cal X G (fun _ _ _ _ _ _ us hl => match us, hl with | [_], _ => rfl) fun fd F => ok_due F venumerate vtuple vsorted vset c_valid
  have c_made : Cal l.prog w K mg base CX0 7 "_law_made" ["_law_events", "_law_text"] (spMade K) := dDMade.cal X G (fun _ _ _ _ _ _ us hl => match us, hl with | [_, _], _ => rfl) fun fd F => ok_made F eCI nCIline TCh mk1Ch CRChparse CMChparse CFChparse
  exact ok_law FL vrange vlen c_source c_draw c_good c_line c_odd c_made c_due c_with_line c_bent c_read_line
end Mf
open PySem PySem.W PyProof.Rows
set_option maxRecDepth 100000 in
set_option maxHeartbeats 0 in
theorem PySem.Challenge.cw_midfall_k94_bad_histories_holds : PySem.Challenge.rw_midfall_k94_bad_histories.Holds := by
  w_on; o_law; k_head; (case hw => w_witness2)
  k_fill
  refine Mf.walk (n := 8) (l := PySem.Challenge.rw_midfall_k94_bad_histories) rfl rfl ⟨rfl, by decide, by decide⟩ (fun w h Y => PySem.W.kIn_of Y) ?F
  case F =>
    intro w mg fa h KX G hmg
    refine' Mf.all_mk KX G hmg ?aCCn ?pgCn ?hdCn ?poCn ?saCn ?mkCn ?kcCn ?haCn ?hmCn ?ciCn ?ctCn ?kLCn ?kTCn ?neCn ?sfCn ?nCnmembers ?kSCn ?iaCn ?iiCn ?ilCn ?icCn ?ikCn ?t1Cn ?t2Cn ?t3Cn ?t4Cn ?t5Cn ?t6Cn ?aCCh ?pgCh ?hdCh ?poCh ?saCh ?mkCh ?kcCh ?haCh ?hmCh ?ciCh ?ctCh ?kLCh ?kTCh ?neCh ?sfCh ?nChevents ?iaCh ?iiCh ?ilCh ?icCh ?ikCh ?t1Ch ?t2Ch ?t3Ch ?t4Ch ?t5Ch ?t6Ch ?rdCh ?gtCh ?cmChparse ?rcChparse ?fiChparse ?lChparse ?cChparse ?kChparse ?aCCI ?lCCI ?saCI ?tyCI ?kcCI ?hgCI ?hkCI ?haCI ?hdCI ?ciCI ?nCIline ?aICI ?lICI ?cICI ?kICI ?iICI ?nICI ?tICI ?hn ?htk ?aDIs_name ?lDIs_name ?cDIs_name ?kDIs_name ?aDIs_integer ?lDIs_integer ?cDIs_integer ?kDIs_integer ?aDIs_number ?lDIs_number ?cDIs_number ?kDIs_number ?aDIs_numeral ?lDIs_numeral ?cDIs_numeral ?kDIs_numeral ?aDAre_places ?lDAre_places ?cDAre_places ?kDAre_places ?aDIs_event ?lDIs_event ?cDIs_event ?kDIs_event ?aDOrdered_event ?lDOrdered_event ?cDOrdered_event ?kDOrdered_event ?aDParsed_event ?lDParsed_event ?cDParsed_event ?kDParsed_event ?aDSource ?lDSource ?cDSource ?kDSource ?aDDraw ?lDDraw ?cDDraw ?kDDraw ?aDName ?lDName ?cDName ?kDName ?aDNames ?lDNames ?cDNames ?kDNames ?aDNumber ?lDNumber ?cDNumber ?kDNumber ?aDLIsName ?lDLIsName ?cDLIsName ?kDLIsName ?aDGood ?lDGood ?cDGood ?kDGood ?aDOdd ?lDOdd ?cDOdd ?kDOdd ?aDValid ?lDValid ?cDValid ?kDValid ?aDRead_number ?lDRead_number ?cDRead_number ?kDRead_number ?aDRead_line ?lDRead_line ?cDRead_line ?kDRead_line ?aDLine ?lDLine ?cDLine ?kDLine ?aDBent ?lDBent ?cDBent ?kDBent ?aDWith_line ?lDWith_line ?cDWith_line ?kDWith_line ?aDDue ?lDDue ?cDDue ?kDDue ?aDMade ?lDMade ?cDMade ?kDMade ?aDLaw ?lDLaw ?cDLaw ?kDLaw ?aLONGEST_NAME ?aMOST_EVENTS ?aMOST_DIGITS ?aMALFORMED ?lMALFORMED ?dMALFORMED ?iMALFORMED ?cMALFORMED ?zint ?zenumerate ?zrange ?zlist ?ztuple ?zsorted ?zstr ?zall ?zisinstance ?zbool ?zlen ?zset ?zabs
    (case aCCn => k_is)
    (case pgCn => k_is)
    (case hdCn => k_is)
    (case poCn => k_is)
    (case saCn => k_is)
    (case mkCn => k_is)
    (case kcCn => k_is)
    (case haCn => k_is)
    (case hmCn => k_is)
    (case ciCn => k_is)
    (case ctCn => k_is)
    (case kLCn => k_is)
    (case kTCn => k_is)
    (case neCn => k_is)
    (case sfCn => k_is)
    (case nCnmembers => k_is)
    (case kSCn => k_is)
    (case iaCn => k_is)
    (case iiCn => k_is)
    (case ilCn => k_is)
    (case icCn => k_is)
    (case ikCn => k_is)
    (case t1Cn => k_is)
    (case t2Cn => rfl)
    (case t3Cn => rfl)
    (case t4Cn => k_is)
    (case t5Cn => rfl)
    (case t6Cn => rfl)
    (case aCCh => k_is)
    (case pgCh => k_is)
    (case hdCh => k_is)
    (case poCh => k_is)
    (case saCh => k_is)
    (case mkCh => k_is)
    (case kcCh => k_is)
    (case haCh => k_is)
    (case hmCh => k_is)
    (case ciCh => k_is)
    (case ctCh => k_is)
    (case kLCh => k_is)
    (case kTCh => k_is)
    (case neCh => k_is)
    (case sfCh => k_is)
    (case nChevents => k_is)
    (case iaCh => k_is)
    (case iiCh => k_is)
    (case ilCh => k_is)
    (case icCh => k_is)
    (case ikCh => k_is)
    (case t1Ch => k_is)
    (case t2Ch => rfl)
    (case t3Ch => rfl)
    (case t4Ch => k_is)
    (case t5Ch => rfl)
    (case t6Ch => rfl)
    (case rdCh => k_is)
    (case gtCh => k_is)
    (case cmChparse => k_is)
    (case rcChparse => k_is)
    (case fiChparse => k_is)
    (case lChparse => k_is)
    (case cChparse => k_is)
    (case kChparse => k_is)
    (case aCCI => k_is)
    (case lCCI => k_is)
    (case saCI => k_is)
    (case tyCI => k_is)
    (case kcCI => k_is)
    (case hgCI => k_is)
    (case hkCI => k_is)
    (case haCI => k_is)
    (case hdCI => k_is)
    (case ciCI => k_is)
    (case nCIline => k_is)
    (case aICI => k_is)
    (case lICI => k_is)
    (case cICI => k_is)
    (case kICI => k_is)
    (case iICI => k_is)
    (case nICI => k_is)
    (case tICI => k_is)
    (case hn => k_is)
    (case htk => k_is)
    (case aDIs_name => k_is)
    (case lDIs_name => k_is)
    (case cDIs_name => k_is)
    (case kDIs_name => k_is)
    (case aDIs_integer => k_is)
    (case lDIs_integer => k_is)
    (case cDIs_integer => k_is)
    (case kDIs_integer => k_is)
    (case aDIs_number => k_is)
    (case lDIs_number => k_is)
    (case cDIs_number => k_is)
    (case kDIs_number => k_is)
    (case aDIs_numeral => k_is)
    (case lDIs_numeral => k_is)
    (case cDIs_numeral => k_is)
    (case kDIs_numeral => k_is)
    (case aDAre_places => k_is)
    (case lDAre_places => k_is)
    (case cDAre_places => k_is)
    (case kDAre_places => k_is)
    (case aDIs_event => k_is)
    (case lDIs_event => k_is)
    (case cDIs_event => k_is)
    (case kDIs_event => k_is)
    (case aDOrdered_event => k_is)
    (case lDOrdered_event => k_is)
    (case cDOrdered_event => k_is)
    (case kDOrdered_event => k_is)
    (case aDParsed_event => k_is)
    (case lDParsed_event => k_is)
    (case cDParsed_event => k_is)
    (case kDParsed_event => k_is)
    (case aDSource => k_is)
    (case lDSource => k_is)
    (case cDSource => k_is)
    (case kDSource => k_is)
    (case aDDraw => k_is)
    (case lDDraw => k_is)
    (case cDDraw => k_is)
    (case kDDraw => k_is)
    (case aDName => k_is)
    (case lDName => k_is)
    (case cDName => k_is)
    (case kDName => k_is)
    (case aDNames => k_is)
    (case lDNames => k_is)
    (case cDNames => k_is)
    (case kDNames => k_is)
    (case aDNumber => k_is)
    (case lDNumber => k_is)
    (case cDNumber => k_is)
    (case kDNumber => k_is)
    (case aDLIsName => k_is)
    (case lDLIsName => k_is)
    (case cDLIsName => k_is)
    (case kDLIsName => k_is)
    (case aDGood => k_is)
    (case lDGood => k_is)
    (case cDGood => k_is)
    (case kDGood => k_is)
    (case aDOdd => k_is)
    (case lDOdd => k_is)
    (case cDOdd => k_is)
    (case kDOdd => k_is)
    (case aDValid => k_is)
    (case lDValid => k_is)
    (case cDValid => k_is)
    (case kDValid => k_is)
    (case aDRead_number => k_is)
    (case lDRead_number => k_is)
    (case cDRead_number => k_is)
    (case kDRead_number => k_is)
    (case aDRead_line => k_is)
    (case lDRead_line => k_is)
    (case cDRead_line => k_is)
    (case kDRead_line => k_is)
    (case aDLine => k_is)
    (case lDLine => k_is)
    (case cDLine => k_is)
    (case kDLine => k_is)
    (case aDBent => k_is)
    (case lDBent => k_is)
    (case cDBent => k_is)
    (case kDBent => k_is)
    (case aDWith_line => k_is)
    (case lDWith_line => k_is)
    (case cDWith_line => k_is)
    (case kDWith_line => k_is)
    (case aDDue => k_is)
    (case lDDue => k_is)
    (case cDDue => k_is)
    (case kDDue => k_is)
    (case aDMade => k_is)
    (case lDMade => k_is)
    (case cDMade => k_is)
    (case kDMade => k_is)
    (case aDLaw => k_is)
    (case lDLaw => k_is)
    (case cDLaw => k_is)
    (case kDLaw => k_is)
    (case aLONGEST_NAME => k_is)
    (case aMOST_EVENTS => k_is)
    (case aMOST_DIGITS => k_is)
    (case aMALFORMED => k_is)
    (case lMALFORMED => k_is)
    (case dMALFORMED => rfl)
    (case iMALFORMED => rfl)
    (case cMALFORMED => rfl)
    (case zint => k_is)
    (case zenumerate => k_is)
    (case zrange => k_is)
    (case zlist => k_is)
    (case ztuple => k_is)
    (case zsorted => k_is)
    (case zstr => k_is)
    (case zall => k_is)
    (case zisinstance => k_is)
    (case zbool => k_is)
    (case zlen => k_is)
    (case zset => k_is)
    (case zabs => k_is)
