import PyProof.Rows.All
import Wide.All
import OpenK.AllK
import Wide.FinOn
import HandS.ForExc
import HandS.ForMost
import HandS.IsInst
import HandS.Wide
import HandS.Walk
import HandS.TupAny
import HandS.Defaults
import HandS.SlotsOwn
import HandS.Codes
import HandS.RaiseMore
import HandS.Set
import HandS.More
import HandS.SetTxt0
import HandS.SetFor
import PyProof.Rows.SortShellAny
import PyProof.InstEq
import HandS.Iter
import KE.GoesEnumKw
import KE.GoesMore
import PyProof.Draws
import KE.KDictWalk
import PyProof.ListRange
import PyProof.CollectWalk
import PyProof.TupleCall
import KE.KDictList
import KE.KEqDict
import HandS.Base
import HandS.Call
import HandS.List
import HandS.Dict
import PyProof.TupleOfSeq
import HandS.Text
import HandS.FStr
import KE.KFmtOwn
import PyProof.ZipIter
import HandS.Star
import HandS.MakeKwOnly
import HandS.Style
import HandS.Flow
import HandS.MakeKw
import PySem.Challenge.RW_midfall_k24_policies_told
set_option Elab.async false
set_option maxRecDepth 100000
/-! Heaps with a source of draws; calls by one fact; texts that are names. -/
namespace Mf
open PySem L2

/-! ### heaps -/
/-- all that was tracked but what stands at a is as it was -/
def Kp (a : Addr) (H H' : Hp) : Prop := ∀ b o, b ≠ a → H b = some o → H' b = some o
theorem Kp.refl {a : Addr} {H : Hp} : Kp a H H := fun _ _ _ h => h
theorem Kp.trans {a : Addr} {H H1 H2 : Hp} (x : Kp a H H1) (y : Kp a H1 H2) : Kp a H H2 := fun b o n h => y b o n (x b o n h)
theorem Kp.same {a : Addr} {H H' : Hp} (x : Same H H') : Kp a H H' := fun b o _ h => x b o h
theorem Kp.then {a : Addr} {H H1 H2 : Hp} (x : Kp a H H1) (y : Same H1 H2) : Kp a H H2 := x.trans (.same y)
theorem Kp.new {a p : Addr} {H : Hp} {o : HO} (h : H p = none) : Kp a H (upd H p o) := fun b u _ e => by rw [upd_ne (ne_of_none e h)]; exact e
theorem Kp.put {a : Addr} {H H1 : Hp} {o : HO} (x : Kp a H H1) : Kp a H (upd H1 a o) := fun b u n e => by rw [upd_ne n]; exact x b u n e
/-- p was not there at H: it may change -/
theorem Kp.mut {a p : Addr} {H H1 : Hp} {o : HO} (x : Kp a H H1) (h : H p = none) : Kp a H (upd H1 p o) := fun b u n e => by rw [upd_ne (ne_of_none e h)]; exact x b u n e
theorem Kp.lst {K : PySem.W.Frag} {a t : Addr} {H H' : Hp} {xs : List V} (x : Kp a H H') (n : t ≠ a) (h : SqL K H t xs) : SqL K H' t xs := by
  rcases h with (h | ⟨o, h⟩) | h
  · exact .inl (.inl (x _ _ n h))
  · exact .inl (.inr ⟨o, x _ _ n h⟩)
  · exact .inr h
theorem Kp.tup {K : PySem.W.Frag} {a t : Addr} {H H' : Hp} {xs : List V} (x : Kp a H H') (n : t ≠ a) (h : SqT K H t xs) : SqT K H' t xs := by
  rcases h with (h | ⟨o, h⟩) | h
  · exact .inl (.inl (x _ _ n h))
  · exact .inl (.inr ⟨o, x _ _ n h⟩)
  · exact .inr h
theorem _root_.L2.Same.new {p : Addr} {H : Hp} {o : HO} (h : H p = none) : Same H (upd H p o) := fun b u e => by rw [upd_ne (ne_of_none e h)]; exact e
theorem _root_.L2.Same.mut {p : Addr} {H H1 : Hp} {o : HO} (x : Same H H1) (h : H p = none) : Same H (upd H1 p o) := fun b u e => by rw [upd_ne (ne_of_none e h)]; exact x b u e
theorem _root_.L2.Same.tup {K : PySem.W.Frag} {t : Addr} {H H' : Hp} {xs : List V} (x : Same H H') (h : SqT K H t xs) : SqT K H' t xs := by
  rcases h with (h | ⟨o, h⟩) | h
  · exact .inl (.inl (x _ _ h))
  · exact .inl (.inr ⟨o, x _ _ h⟩)
  · exact .inr h
theorem ne_none {H : Hp} {p a : Addr} {o : HO} (h : H p = none) (h' : H a = some o) : p ≠ a := fun e => by rw [e, h'] at h; cases h

/-! ### the source of draws -/
/-- at a: a source that has n draws left, and more -/
def Src (H : Hp) (a : Addr) (n : Nat) : Prop := ∃ g s c : Int, H a = some (.lst [.int g, .int s, .int c]) ∧ 0 ≤ s ∧ s < 2147483647 ∧ 0 ≤ c ∧ c + n ≤ 1099511627776
theorem Src.mono {H : Hp} {a : Addr} {n m : Nat} (x : Src H a n) (h : m ≤ n) : Src H a m := let ⟨g, s, c, e, a1, a2, a3, a4⟩ := x; ⟨g, s, c, e, a1, a2, a3, by omega⟩
theorem Src.same {H H' : Hp} {a : Addr} {n : Nat} (x : Src H a n) (h : Same H H') : Src H' a n := let ⟨g, s, c, e, r⟩ := x; ⟨g, s, c, h _ _ e, r⟩
theorem Src.ne {H : Hp} {a p : Addr} {n : Nat} (x : Src H a n) (h : H p = none) : p ≠ a := let ⟨_, _, _, e, _⟩ := x; ne_none h e
theorem Src.new {H : Hp} {a p : Addr} {n : Nat} {o : HO} (x : Src H a n) (h : H p = none) : Src (upd H p o) a n := x.same (Same.new h)
theorem Src.put {H : Hp} {a p : Addr} {n : Nat} {o : HO} (x : Src H a n) (h : p ≠ a) : Src (upd H p o) a n := let ⟨g, s, c, e, r⟩ := x; ⟨g, s, c, by rw [upd_ne (Ne.symm h)]; exact e, r⟩

/-! ### a def that is called by its name: one fact -/
structure Cal (P : Program) (w : World) (K : PySem.W.Frag) (mg : Str → Option Value) (base : Heap) (CX : CXT) (k : Nat) (x : Str) (ps : List Str) (sp : Sp) : Prop where
  ex : ∃ (f : Addr) (fd : FuncData), FnOk P w K mg base CX k f fd ps sp ∧ mg x = some (.ref f) ∧ PySem.W.keepIn K (.ref f) = true ∧ Binds K fd ps []
theorem pe_cal {X : Cx} {CX : CXT} {k : Nat} {x : Str} {ps : List Str} {sp : Sp} {E : XK} {e : Expr} {es : List Expr} {t : TA} {p pos : Pos} (c : Cal X.prog X.w X.K X.mg X.base CX k x ps sp) (hr : Room k X.A) (hx : Passes CX X E) (ha : PA X (e :: es) t) (hg : Gl X x := by rfl)
    (hdb : (x == ("__debug__" : Str)) = false := by decide) (he : starEach (e :: es) X.env = (false, eval e X.env) :: starEach es X.env := by rfl) (hpl : (backTo pos (starEach es X.env)).any (·.1) = false := by rfl) :
    PE X (.Call (.Name x p) (e :: es) [] pos) (tCall sp [] E t) := by
  obtain ⟨f, fd, F, m, kp, b⟩ := c.ex
  exact pe_call F hr hg m kp b .nil hx ha hdb he hpl
theorem Cal.mono {P : Program} {w : World} {K : PySem.W.Frag} {mg : Str → Option Value} {base : Heap} {CX : CXT} {k j : Nat} {x : Str} {ps : List Str} {sp : Sp} (c : Cal P w K mg base CX k x ps sp) (h : k ≤ j) : Cal P w K mg base CX j x ps sp :=
  let ⟨f, fd, F, m, kp, b⟩ := c.ex
  ⟨⟨f, fd, F.mono h, m, kp, b⟩⟩

/-! ### names -/
def Low (c : Nat) : Prop := 97 ≤ c ∧ c ≤ 122
def IsName (z : Str) : Prop := 1 ≤ z.cps.size ∧ z.cps.size ≤ 8 ∧ ∀ c ∈ z.cps.toList, Low c
instance (z : Str) : Decidable (IsName z) := by unfold IsName Low; infer_instance
theorem IsName.len {z : Str} (h : IsName z) : z.length ≤ 8 := h.2.1

theorem alpha_at {i : Int} (h0 : 0 ≤ i) (h : i < 26) : ∃ c, atI ("abcdefghijklmnopqrstuvwxyz" : Str).cps.toList i = some c ∧ Low c := by
  obtain ⟨n, rfl⟩ := Int.eq_ofNat_of_zero_le h0
  have e : ∀ n : Fin 26, atI ("abcdefghijklmnopqrstuvwxyz" : Str).cps.toList ((n.val : Nat) : Int) = some (97 + n.val) := by decide +kernel
  exact ⟨97 + n, e ⟨n, by omega⟩, by unfold Low; omega⟩

theorem atI_mem {α : Type} {xs : List α} {v : Int} (h0 : 0 ≤ v) (h : v < xs.length) : ∃ x ∈ xs, atI xs v = some x := by
  obtain ⟨n, rfl⟩ := Int.eq_ofNat_of_zero_le h0
  have hn : n < xs.length := by omega
  refine ⟨xs[n], List.getElem_mem hn, ?_⟩
  exact atI_nat (List.getElem?_eq_getElem hn)
theorem inV_str {z : Str} {zs : List Str} : inV (.str z) (zs.map V.str) = decide (z ∈ zs) := by
  unfold inV
  induction zs with
  | nil => rfl
  | cons y ys ih =>
    rw [List.map_cons, List.any_cons, ih]
    show ((y == z) || _) = _
    by_cases h : y = z
    · subst h; simp
    · have h' : ¬ z = y := fun e => h e.symm
      simp [h, h']
theorem tl_inj {x y : Str} (h : x.cps.toList = y.cps.toList) : x = y := by
  cases x; cases y
  simp only [Str.mk.injEq]
  exact Array.toList_inj.mp h
theorem join_nil (ys : List Str) : (Txt.join ("" : Str) ys).cps.toList = (ys.map fun y => y.cps.toList).flatten := by
  rw [TL.join_eq, show (Str.join ("" : Str) ys).cps.toList = TL.tl (Str.join ("" : Str) ys) from rfl, TL.tl_join]
  show TL.joinL [] (ys.map TL.tl) = _
  generalize ys.map TL.tl = l
  induction l with
  | nil => rfl
  | cons p r ih =>
    cases r with
    | nil => simp [TL.joinL]
    | cons q r => show p ++ ([] ++ TL.joinL [] (q :: r)) = _; rw [ih]; simp
theorem join_signs (cs : List Nat) : Txt.join ("" : Str) (cs.map fun c => (⟨#[c]⟩ : Str)) = ⟨cs.toArray⟩ := by
  refine tl_inj ?_
  rw [join_nil, List.map_map]
  show (cs.map fun c => [c]).flatten = cs
  induction cs with
  | nil => rfl
  | cons c cs ih => rw [List.map_cons, List.flatten_cons, ih]; rfl
theorem str_add (x y : Str) : (x ++ y).cps.toList = x.cps.toList ++ y.cps.toList := TL.tl_append x y
theorem len_tl (z : Str) : z.length = z.cps.toList.length := by show z.cps.size = _; rw [Array.length_toList]

/-! ### rules whose reading names the written part (for comprehensions' blocks) -/
section
variable (K : PySem.W.Frag) {X : Cx}
theorem ixl (h : X.K = K := by rfl) : IxR X (rIxL K) := h ▸ ix_list
theorem ixt (h : X.K = K := by rfl) : IxR X (rIxT K) := h ▸ ix_tup
theorem oin (h : X.K = K := by rfl) : OpR X (compareOp .In) (rIn K false) := h ▸ op_in_seq
theorem nin (h : X.K = K := by rfl) : OpR X (compareOp .NotIn) (rIn K true) := h ▸ op_notIn_seq
def rLenK : List V → Hp → VK → Prop := fun xs H Q => ∃ p ys, xs = [.ref p] ∧ (SqL K H p ys ∨ SqT K H p ys) ∧ Q (.int (ys.length : Nat)) H
theorem k_len (h : X.K = K := by rfl) : CallR X (.builtin "len") (rLenK K) := h ▸ call_len_seq
def rListK : List V → Hp → VK → Prop := fun xs H Q => ∃ p ys, xs = [.ref p] ∧ (SqL K H p ys ∨ SqT K H p ys) ∧ ∀ l, H l = none → Q (.ref l) (upd H l (.lst ys))
theorem k_list (h : X.K = K := by rfl) : CallR X (.type "list") (rListK K) := h ▸ call_list_of
def rTupK : List V → Hp → VK → Prop := fun xs H Q => ∃ p ys, xs = [.ref p] ∧ ((SqL K H p ys ∧ ∀ l, H l = none → Q (.ref l) (upd H l (.tup ys))) ∨ (SqT K H p ys ∧ Q (.ref p) H))
theorem k_tuple (h : X.K = K := by rfl) : CallR X (.type "tuple") (rTupK K) := h ▸ call_tuple_of
theorem k_isi (h : X.K = K := by rfl) : CallR X (.builtin "isinstance") (rIsi K) := h ▸ call_isi
theorem k_all (hc : X.calm = true := by rfl) (h : X.K = K := by rfl) : CallR X (.builtin "all") (rAll K) := h ▸ cr_all hc
theorem k_any (hc : X.calm = true := by rfl) (h : X.K = K := by rfl) : CallR X (.builtin "any") (rAny K) := h ▸ cr_any hc
theorem k_sortedS (h : X.K = K := by rfl) : CallR X (.builtin "sorted") (rSortedS K) := h ▸ cr_sortedS
theorem eqD {k : Nat} (hr : Room k X.A) (h : X.K = K := by rfl) : OpR X (compareOp .Eq) (rEqD K) := h ▸ op_eqD hr.units
theorem neD {k : Nat} (hr : Room k X.A) (h : X.K = K := by rfl) : OpR X (compareOp .NotEq) (rNeD K) := h ▸ op_neD hr.units
theorem fldK {e : Expr} {ta : TE} {f : Str} {pos : Pos} (he : PE X e ta) (hb : attributeBase e f X.env (eval e X.env) = eval e X.env := by rfl) (h : X.K = K := by rfl) : PE X (.Attribute e f pos) (tFld K ta f) := h ▸ pe_fld he hb
end
theorem yes_then {σ : L2.St} {H : Hp} {A B : Hp → Prop} (h : A H) : tYes σ H (fun b H3 => if b = true then A H3 else B H3) := by
  show (if true = true then A H else B H)
  rw [if_pos rfl]
  exact h
end Mf

/-! Sets of texts built by set(xs), and sorted(..) of them. -/
namespace Mf
open PySem PySem.Spec PyProof.Rows L2 PySem.Froz

section
variable {P : Program} {w : World} {A : Around} {E : Value → Shared → Prop} {s : Shared} {a : Addr} {l : List Str} {k : Str} {u : Tok}

/-- a set of the texts l (each once) at a -/
def TxR (P : Program) (w : World) (h : Heap) (a : Addr) (l : List Str) : Prop :=
  (∃ D : SD, h.get? a = some (sObj "set" D) ∧ TxOk P w D l ∧ Ris D.2.2.place.toList ∧ (w.params.followText "set-order" = true ∨ D.2.2.led = true)) ∧ l.Nodup ∧ l.length < scanBound

theorem TxR.keep {h h' : Heap} (R : TxR P w h a l) (q : ∀ o, h.get? a = some o → h'.get? a = some o) : TxR P w h' a l :=
  let ⟨⟨D, e, z⟩, n, f⟩ := R
  ⟨⟨D, q _ e, z⟩, n, f⟩

theorem add_order (D : SD) (x : Int) (v : Value) (r : Ris D.2.2.place.toList) : Ris (addTx x v D).2.2.place.toList ∧ (addTx x v D).2.2.led = D.2.2.led := by
  obtain ⟨es, ep, t⟩ := D
  have r1 := layNew_ris t es x v r
  have l1 := layNew_led t es x v
  show Ris (tailTx ep (layNew t es x v).1 (if (layNew t es x v).2.1.plain = true then { (layNew t es x v).2.1 with plain := false } else (layNew t es x v).2.1) (layNew t es x v).2.2.1).2.2.place.toList ∧ (tailTx ep (layNew t es x v).1 (if (layNew t es x v).2.1.plain = true then { (layNew t es x v).2.1 with plain := false } else (layNew t es x v).2.1) (layNew t es x v).2.2.1).2.2.led = t.led
  generalize layNew t es x v = Z at r1 l1 ⊢
  obtain ⟨es1, t1, wd, g⟩ := Z
  dsimp only at r1 l1 ⊢
  have r2 : Ris (if t1.plain = true then { t1 with plain := false } else t1).place.toList := by split <;> exact r1
  have l2 : (if t1.plain = true then { t1 with plain := false } else t1).led = t.led := by split <;> exact l1
  generalize (if t1.plain = true then { t1 with plain := false } else t1) = t2 at r2 l2 ⊢
  unfold tailTx
  split
  · exact ⟨relayAll_ris t2 es1 _, (relayAll_led t2 es1 _).trans l2⟩
  · exact ⟨r2, l2⟩

theorem add_dup {Q : Bool → Shared → Prop} {D : SD} (ho : s.heap.get? a = some (sObj "set" D)) (F : TxOk P w D l) (hk : k ∈ l) (hb : l.length < scanBound) (h : Q false s) : wpAny (model P w) A (setAddHashed a (.str k u) (hashStr w k)) Q E s := by
  obtain ⟨es, ep, t⟩ := D
  have dd : (sObj "set" (es, ep, t)).data = .set es ep t := rfl
  have ff : t.fits es.size = true := F.fit
  have el : ElemsOf (strKind P w) es.toList := F.el
  have zz : es.size = l.length := F.sz
  have b0 : es.size < scanBound := by omega
  have key : (strKind P w).is k (.str k u) = true := is_str k u
  unfold setAddHashed setAddHashedIn
  refine wpAny_holding (wpAny_bind (wpAny_setState_of ho dd ff ?_))
  dsimp only
  rw [byScan_of rfl b0 el]
  simp only [↓reduceIte]
  unfold setAddByScan
  refine wpAny_bind ?_
  refine wpAny_bind (wpAny_rule ?_)
  refine wpAny_bind (wpAny_setScan_of (knd := strKind P w) (k := k) key ho dd ff el ?_)
  cases hr : List.findIdx? (fun e => (strKind P w).is k e.2) es.toList with
  | some j => exact wpAny_pure (wpAny_pure h)
  | none =>
    obtain ⟨e, he, q⟩ := (F.mem k).mp hk
    have c := List.findIdx?_eq_none_iff.mp hr e he
    rw [q] at c
    cases c

theorem txr_add {Q : Bool → Shared → Prop} (R : TxR P w s.heap a l) (room : l.length + 1 < scanBound)
    (hQ : ∀ (b : Bool) h' l', Heap.SameBut a s.heap h' → TxR P w h' a l' → (∀ z, z ∈ l' ↔ z ∈ l ∨ z = k) → l'.length ≤ l.length + 1 → Q b { s with heap := h' }) :
    wpAny (model P w) A (setAddHashed a (.str k u) (hashStr w k)) Q E s := by
  obtain ⟨⟨D, ho, F, r, fl⟩, nd, few⟩ := id R
  by_cases hk : k ∈ l
  · refine add_dup ho F hk few ?_
    exact hQ false s.heap l (Heap.SameBut.refl a s.heap) R (fun z => ⟨Or.inl, fun q => q.elim id fun e => e ▸ hk⟩) (Nat.le_succ _)
  · refine add_x ho F hk room ?_
    have o := add_order D (hashStr w k) (.str k u) r
    refine hQ true _ (k :: l) (Heap.SameBut.update s.heap a _) ⟨⟨_, get_upd _ ho rfl, add_ok u F, o.1, fl.imp id fun z => o.2.trans z⟩, List.nodup_cons.mpr ⟨hk, nd⟩, room⟩ (fun z => ?_) (Nat.le_refl _)
    rw [List.mem_cons]
    exact Or.comm

theorem txr_new {h : Heap} (e : h.get? a = some { cls := .type "set", dict := none, data := .set #[] 0 (.fresh 0 0 (!w.params.followText "set-order")) }) : TxR P w h a [] := by
  refine ⟨⟨(#[], 0, .fresh 0 0 (!w.params.followText "set-order")), e, TxOk.nil rfl, List.Pairwise.nil, ?_⟩, List.nodup_nil, by decide⟩
  show _ ∨ (!w.params.followText "set-order") = true
  cases w.params.followText "set-order"
  · exact .inr rfl
  · exact .inl rfl

/-- set.update's turns over texts -/
theorem loop_txt {I : Addr} {fp wr : List Addr} {G : Array GenState → Array GenState → Prop} {n : Nat} {Pv : Nat → Value → Prop} {St : Nat → Shared → Prop} {R : Result → Shared → Prop}
    (W : WalksS P w A.in1 I fp wr G n Pv St) (S : Addr) (nS : S ∉ fp) (xs : List Str) (hn : n = xs.length) (room : n + 1 < scanBound) (val : ∀ i v, Pv i v → ∃ x t, xs[i]? = some x ∧ v = .str x t) :
    ∀ (k i : Nat) (s : Shared), n - i = k → i ≤ n → St i s → (∃ l, TxR P w s.heap S l ∧ (∀ z, z ∈ l ↔ z ∈ xs.take i) ∧ l.length ≤ i) →
      (∀ s' l, Moved (S :: wr) G s s' → TxR P w s'.heap S l → (∀ z, z ∈ l ↔ z ∈ xs) → R (.ok (.ret .none)) s') →
      codeAny (model P w) A (.builtin "set.update.loop" ⟨[.ref S, .ref I], []⟩) R s := by
  have sw : S ∉ wr := fun q => nS (W.sub _ q)
  have sub : ∀ b ∈ wr, b ∈ S :: wr := fun b q => List.mem_cons_of_mem _ q
  intro k
  induction k with
  | zero =>
    rintro i s hk hi hst ⟨l, hS, hm, _⟩ hR
    obtain rfl : i = n := by omega
    refine codeAny_builtin F.entry_set_update_loop ?_
    rw [Around.under_plainId F.plain_set_update_loop _]
    show wpAny _ A.in1 (pyNext (.ref I) >>= _) _ _ s
    refine wpAny_bind (W.done s _ _ hst fun s' mv => ?_)
    show wpAny _ A.in1 (ret Value.none) _ _ s'
    refine wpAny_pure (hR s' l (mv.mono sub) (hS.keep fun o e => mv.heap S o sw e) fun z => ?_)
    rw [hm z, hn, List.take_length]
  | succ k ih =>
    rintro i s hk hi hst ⟨l, hS, hm, hle⟩ hR
    have lt : i < n := by omega
    refine codeAny_builtin F.entry_set_update_loop ?_
    rw [Around.under_plainId F.plain_set_update_loop _]
    show wpAny _ A.in1 (pyNext (.ref I) >>= _) _ _ s
    refine wpAny_bind (W.item i s _ _ lt hst fun v s' pv' hst' mv => ?_)
    obtain ⟨x, t, ex, rfl⟩ := val i v pv'
    have hS' : TxR P w s'.heap S l := hS.keep fun o e => mv.heap S o sw e
    show wpAny _ A.in1 (holding [Value.str x t] (setAdd S (.str x t)) >>= _) _ _ s'
    refine wpAny_bind (wpAny_holding ?_)
    unfold setAdd
    refine wpAny_holding (wpAny_bind ((strKind P w).pyHash (is_str x t) ?_))
    refine txr_add (s := { s' with toks := s'.toks + 1 }) hS' (by omega) fun b h' l' same R' m' le' => ?_
    have tk : xs.take (i + 1) = xs.take i ++ [x] := by rw [List.take_add_one, ex]; rfl
    refine wpAny_pure ⟨plainId_quiet F.plain_set_update_loop _, ih (i + 1) _ (by omega) lt (W.frame _ s' _ _ hst' (Nat.le_add_right _ _) fun b hb o e => ?_) ⟨l', R', fun z => ?_, by omega⟩ fun s'' l2 mv2 R2 m2 => ?_⟩
    · rw [same.2 b (fun q : b = S => nS (q ▸ hb))]
      exact e
    · rw [m' z, hm z, tk, List.mem_append, List.mem_singleton]
    · refine hR s'' l2 (Moved.trans W.gtrans ((mv.mono sub).then_heap (Nat.le_add_right _ _) fun b o hb e => ?_) mv2) R2 m2
      rw [same.2 b (fun q : b = S => hb (q ▸ List.mem_cons_self))]
      exact e

abbrev set0 (w : World) : Obj := { cls := .type "set", dict := none, data := .set #[] 0 (.fresh 0 0 (!w.params.followText "set-order")) }

/-- how a builtin's tree ends, as a result R -/
def FinX (P : Program) (w : World) (B : Around) (R : Result → Shared → Prop) : Fin → Shared → Prop
  | .done f, s' => R (.ok f) s'
  | .again c', s' => c'.quiet = true ∧ codeAny (model P w) B c' R s'

/-- the set at S is filled from what stands at c -/
def Fills (P : Program) (w : World) (s : Shared) (c : Addr) (xs : List Str) : Prop :=
  ∀ (B : Around) (R : Result → Shared → Prop), B.handled = none →
    (∀ (h' : Heap) (tk : Nat) (l : List Str), TxR P w h' s.heap.objs.size l → (∀ z, z ∈ l ↔ z ∈ xs) → (∀ b o, s.heap.get? b = some o → h'.get? b = some o) → R (.ok (.ret .none)) { s with heap := h', toks := tk }) →
    wpAny (model P w) B.in1 (Builtin.«set.__init__» ⟨[.ref s.heap.objs.size, .ref c], []⟩) (FinX P w B R) (fun e s' => R (.error e) s') { s with heap := s.heap.push (set0 w) }

theorem strs_val {us : List Value} {xs : List Str} (h : StrsAre us xs) : us.length = xs.length ∧ ∀ (i : Nat) (v : Value), us[i]? = some v → ∃ x t, xs[i]? = some x ∧ v = .str x t := by
  induction h with
  | nil => exact ⟨rfl, fun i v q => by simp at q⟩
  | cons x t h ih =>
    refine ⟨congrArg (· + 1) ih.1, fun i v q => ?_⟩
    cases i with
    | zero => exact ⟨x, t, rfl, (Option.some.inj q).symm⟩
    | succ i => exact ih.2 i v q

section
variable {items : Array Value} {xs : List Str} {c : Addr}
theorem fill_end {I : Addr} {R : Result → Shared → Prop} (hI : I = s.heap.objs.size + 1)
    (hR : ∀ (h' : Heap) (tk : Nat) (l : List Str), TxR P w h' s.heap.objs.size l → (∀ z, z ∈ l ↔ z ∈ xs) → (∀ b o, s.heap.get? b = some o → h'.get? b = some o) → R (.ok (.ret .none)) { s with heap := h', toks := tk })
    {h0 : Heap} (k0 : ∀ b o, s.heap.get? b = some o → h0.get? b = some o) {s' : Shared} {l : List Str} (mv : Moved [s.heap.objs.size, I] (fun a b => b = a) { s with heap := h0 } s') (T : TxR P w s'.heap s.heap.objs.size l) (m : ∀ z, z ∈ l ↔ z ∈ xs) : R (.ok (.ret .none)) s' := by
  obtain ⟨h', g2, d2, t2, o2⟩ := s'
  have e1 : g2 = s.gens := mv.gens
  have e2 : d2 = s.drawn := mv.drawn
  have e3 : o2 = s.os := mv.os
  subst e1 e2 e3
  refine hR h' t2 l T m fun b o e => mv.heap b o (fun z => ?_) (k0 b o e)
  have lt : b < s.heap.objs.size := Heap.lt_size e
  rcases List.mem_cons.mp z with z | z
  · exact absurd z (Nat.ne_of_lt lt)
  · exact absurd ((List.mem_singleton.mp z).trans hI) (Nat.ne_of_lt (Nat.lt_succ_of_lt lt))

set_option maxHeartbeats 3200000 in
theorem fills_list (hl : s.heap.IsList c items) (hit : StrsAre items.toList xs) (room : xs.length + 1 < scanBound) : Fills P w s c xs := by
  intro B R hh hR
  obtain ⟨len, val⟩ := strs_val hit
  rw [Array.length_toList] at len
  obtain ⟨⟨k, dd, da, sl⟩, hob, hk, n, hd⟩ := hl
  simp only at hk hd
  subst hk hd
  have hob1 : (s.heap.push (set0 w)).get? c = some { cls := .type "list", dict := dd, data := .seq items n, slots := sl } := Heap.get?_push_of_some _ hob
  have f1 := F.sub_list_set
  have f2 := F.sub_list_frozenset
  have f3 : (Value.type "list" == Value.type "dict") = false := by decide
  have isl : (s.heap.push (set0 w)).IsList c items := ⟨_, hob1, rfl, n, rfl⟩
  unfold Builtin.«set.__init__» noKeywords Builtin.Frozenset.updateFrom
  generalize gq : pyIter = PI
  wp_walk
  subst gq
  refine wpAny_pyIter_list isl ?_
  refine wpAny_bind (wpAny_runValue ?_)
  have h3 : B.in1.in1.handled = none := by simp [hh]
  have lt : c < s.heap.objs.size := Heap.lt_size hob
  have z1 : (s.heap.push (set0 w)).objs.size = s.heap.objs.size + 1 := Heap.size_push ..
  have nI : c ≠ (s.heap.push (set0 w)).objs.size := by rw [z1]; exact Nat.ne_of_lt (Nat.lt_succ_of_lt lt)
  have nS : s.heap.objs.size ∉ [(s.heap.push (set0 w)).objs.size, c] := by
    rw [z1]
    simp only [List.mem_cons, List.not_mem_nil, or_false, not_or]
    exact ⟨Nat.ne_of_lt (Nat.lt_succ_self _), Nat.ne_of_gt lt⟩
  have get0 : (s.heap.push (set0 w)).get? s.heap.objs.size = some (set0 w) := Heap.get?_push_size _ rfl
  refine loop_txt ((Walks.list h3 _ c nI items).toS) s.heap.objs.size nS xs len (by omega) (fun i v q => val i v (by rw [Array.getElem?_toList]; exact q)) (items.size - 0) 0 _ (by omega) (Nat.zero_le _)
    ⟨⟨_, Heap.get?_push_size _ rfl, rfl, rfl⟩, isl.push _⟩ ⟨[], txr_new (Heap.get?_push_of_some _ get0), fun z => by simp, Nat.le_refl 0⟩ fun s' l mv T m => ?_
  have q := fill_end (R := R) z1 hR (fun b o e => Heap.get?_push_of_some _ (Heap.get?_push_of_some _ e)) mv T m
  show wpAny _ _ _ _ _ _
  refine wpAny_pure ?_
  show wpAny _ _ (ret Value.none) _ _ _
  exact wpAny_pure q
set_option maxHeartbeats 3200000 in
theorem fills_tuple (hl : s.heap.IsTuple c items) (hit : StrsAre items.toList xs) (room : xs.length + 1 < scanBound) : Fills P w s c xs := by
  intro B R hh hR
  obtain ⟨len, val⟩ := strs_val hit
  rw [Array.length_toList] at len
  obtain ⟨⟨k, dd, da, sl⟩, hob, hk, n, hd⟩ := hl
  simp only at hk hd
  subst hk hd
  have hob1 : (s.heap.push (set0 w)).get? c = some { cls := .type "tuple", dict := dd, data := .seq items n, slots := sl } := Heap.get?_push_of_some _ hob
  have f1 := F.sub_tuple_set
  have f2 := F.sub_tuple_frozenset
  have f3 : (Value.type "tuple" == Value.type "dict") = false := by decide
  have isl : (s.heap.push (set0 w)).IsTuple c items := ⟨_, hob1, rfl, n, rfl⟩
  unfold Builtin.«set.__init__» noKeywords Builtin.Frozenset.updateFrom
  generalize gq : pyIter = PI
  wp_walk
  subst gq
  refine wpAny_pyIter_tuple isl ?_
  refine wpAny_bind (wpAny_runValue ?_)
  have h3 : B.in1.in1.handled = none := by simp [hh]
  have lt : c < s.heap.objs.size := Heap.lt_size hob
  have z1 : (s.heap.push (set0 w)).objs.size = s.heap.objs.size + 1 := Heap.size_push ..
  have nI : c ≠ (s.heap.push (set0 w)).objs.size := by rw [z1]; exact Nat.ne_of_lt (Nat.lt_succ_of_lt lt)
  have nS : s.heap.objs.size ∉ [(s.heap.push (set0 w)).objs.size, c] := by
    rw [z1]
    simp only [List.mem_cons, List.not_mem_nil, or_false, not_or]
    exact ⟨Nat.ne_of_lt (Nat.lt_succ_self _), Nat.ne_of_gt lt⟩
  have get0 : (s.heap.push (set0 w)).get? s.heap.objs.size = some (set0 w) := Heap.get?_push_size _ rfl
  refine loop_txt ((Walks.tuple h3 _ c nI items).toS) s.heap.objs.size nS xs len (by omega) (fun i v q => val i v (by rw [Array.getElem?_toList]; exact q)) (items.size - 0) 0 _ (by omega) (Nat.zero_le _)
    ⟨⟨_, Heap.get?_push_size _ rfl, rfl, rfl⟩, isl.push _⟩ ⟨[], txr_new (Heap.get?_push_of_some _ get0), fun z => by simp, Nat.le_refl 0⟩ fun s' l mv T m => ?_
  have q := fill_end (R := R) z1 hR (fun b o e => Heap.get?_push_of_some _ (Heap.get?_push_of_some _ e)) mv T m
  show wpAny _ _ _ _ _ _
  refine wpAny_pure ?_
  show wpAny _ _ (ret Value.none) _ _ _
  exact wpAny_pure q

set_option maxHeartbeats 3200000 in
/-- set(xs), xs a list or tuple of texts -/
theorem set_call {Q : Value → Shared → Prop} (hh : A.handled = none) (fill : Fills P w s c xs)
    (h : ∀ (h' : Heap) (tk : Nat) (l : List Str), TxR P w h' s.heap.objs.size l → (∀ z, z ∈ l ↔ z ∈ xs) → (∀ b o, s.heap.get? b = some o → h'.get? b = some o) → Q (.ref s.heap.objs.size) { s with heap := h', toks := tk }) :
    wpAny (model P w) A (call (.type "set") [.ref c]) Q E s := by
  obtain ⟨c0, tl, hmro⟩ := F.called_set.mro
  have hmade := F.called_set.made
  have hsub := F.called_set.sub
  refine wpAny_call (codeAny_of_tree ?_)
  show wpAny _ _ (callAny (.type "set") _) _ _ _
  refine wpAny_pure ⟨Code.quiet_builtin _ (by decide +kernel), codeAny_builtin F.entry_type_call ?_⟩
  rw [Around.under_plain (weight_type_call_type "set" [.ref c] []) rfl]
  have h1 := F.called_set.notType
  have h2 := F.called_set.canCreate
  have h3 := F.typeCall_set_1 (.ref c)
  repeat (any_goals (first | assumption | wp_step))
  refine codeAny_mono (code_set_led1 (.ref c) (E := E) (Q₁ := fun obj s₁ => obj = .ref s.heap.objs.size ∧ s₁ = { s with heap := s.heap.push (set0 w) }) ⟨rfl, rfl⟩) fun r s1 hr => ?_
  rcases r with e | fl
  · exact hr
  rcases fl with _ | _ | _ | obj
  all_goals try exact hr.elim
  obtain ⟨rfl, rfl⟩ := hr
  have hS : (s.heap.push (set0 w)).get? s.heap.objs.size = some (set0 w) := Heap.get?_push_size _ rfl
  have tS : Shared.TypeIs { s with heap := s.heap.push (set0 w) } (.ref s.heap.objs.size) "set" := ⟨_, hS, rfl⟩
  have i1 := F.called_set.init.lookup
  have i2 := F.called_set.init.bind (.ref s.heap.objs.size)
  repeat (any_goals (first | assumption | wp_step))
  refine codeAny_mono (codeAny_call_builtin (R := wants (fun r s₂ => r = .none ∧ ∃ h' tk l, s₂ = { s with heap := h', toks := tk } ∧ TxR P w h' s.heap.objs.size l ∧ (∀ z, z ∈ l ↔ z ∈ xs) ∧ (∀ b o, s.heap.get? b = some o → h'.get? b = some o)) E)
    F.called_set.init.plain F.entry_set_init (check_set_init_1 tS ?_)) fun r2 s2 h2 => ?_
  · refine wpAny_mono (fill A.in1 (wants (fun r s₂ => r = .none ∧ ∃ h' tk l, s₂ = { s with heap := h', toks := tk } ∧ TxR P w h' s.heap.objs.size l ∧ (∀ z, z ∈ l ↔ z ∈ xs) ∧ (∀ b o, s.heap.get? b = some o → h'.get? b = some o)) E) (by simp [hh])
      fun h' tk l T m k => ⟨rfl, h', tk, l, rfl, T, m, k⟩) (fun fin s' q => ?_) fun _ _ q => q
    cases fin <;> exact q
  · rcases r2 with e | fl
    · exact h2
    rcases fl with _ | _ | _ | obj
    all_goals try exact h2.elim
    obtain ⟨rfl, h', tk, l, rfl, R, m, k⟩ := h2
    repeat (any_goals (first | assumption | wp_step))
    exact h _ _ _ R m k

theorem strs_get {l : List Str} : ∀ {vs : List Value}, (∀ v ∈ vs, ∃ x t, v = .str x t) → ∃ ys, StrsAre vs ys
  | [], _ => ⟨[], .nil⟩
  | v :: vs, h => by
    obtain ⟨x, t, rfl⟩ := h v List.mem_cons_self
    obtain ⟨ys, q⟩ := strs_get (l := l) fun u hu => h u (List.mem_cons_of_mem _ hu)
    exact ⟨x :: ys, .cons x t q⟩
theorem strs_mem {x : Str} : ∀ {vs : List Value} {ys : List Str}, StrsAre vs ys → (x ∈ ys ↔ ∃ t, Value.str x t ∈ vs)
  | _, _, .nil => by simp
  | _, _, .cons y t h => by
    rw [List.mem_cons, strs_mem h]
    constructor
    · rintro (rfl | ⟨u, q⟩)
      · exact ⟨t, List.mem_cons_self⟩
      · exact ⟨u, List.mem_cons_of_mem _ q⟩
    · rintro ⟨u, q⟩
      rcases List.mem_cons.mp q with e | q
      · injection e with e _
        exact .inl e
      · exact .inr ⟨u, q⟩

/-- sorted(a set of texts) -/
theorem sorted_txr {a : Addr} {l : List Str} {Q : Value → Shared → Prop} (T : TxR P w s.heap a l) (hh : A.handled = none)
    (hQ : ∀ s' p (out : Array Value) (c : Nat) (ys : List Str), (∀ b o, s.heap.get? b = some o → s'.heap.get? b = some o) → s'.gens = s.gens → s'.os = s.os → s.heap.objs.size ≤ p →
      s'.heap.get? p = some (seqObj "list" out c) → StrsAre out.toList ys → sortedS ys = true → (∀ z, z ∈ ys ↔ z ∈ l) → ys.length = l.length → Q (.ref p) s') :
    wpAny (model P w) A (call (.builtin "sorted") [.ref a]) Q E s := by
  obtain ⟨⟨⟨es, ep, t⟩, ho, F, r, fl⟩, nd, few⟩ := T
  have zz : es.size = l.length := F.sz
  refine Calls.call_function_entry kind_sorted plain_sorted entry_sorted (args_sorted1 _) ?_
  unfold Builtin.«sorted»
  refine wpAny_bind (m := checkCount "sorted" 1 1 _) (wpAny_pure ?_)
  refine wpAny_bind (collect_set (A := A.in1) hh ⟨_, ho, rfl, rfl⟩ F.fit (by rw [zz]; exact few) r fl fun s1 vs k1 hz g1 o1 pm => ?_)
  have all : ∀ v ∈ vs, ∃ x t, v = .str x t := fun v hv => by
    obtain ⟨e, he, rfl⟩ := List.mem_map.mp (pm.mem_iff.mp hv)
    obtain ⟨⟨x, hx, _⟩, _⟩ := F.el e he
    obtain ⟨t, q⟩ := Value.isStrOf_shape (x := x) (v := e.2) hx
    exact ⟨x, t, q⟩
  obtain ⟨ws, hS⟩ := strs_get (l := l) all
  have len := (strs_val hS).1
  have lvs : vs.length = l.length := by rw [pm.length_eq, List.length_map, Array.length_toList]; exact zz
  have mem : ∀ z, z ∈ ws ↔ z ∈ l := fun z => by
    rw [strs_mem hS, F.mem z]
    constructor
    · rintro ⟨t, q⟩
      obtain ⟨e, he, e2⟩ := List.mem_map.mp (pm.mem_iff.mp q)
      exact ⟨e, he, by rw [e2]; exact is_str z t⟩
    · rintro ⟨e, he, q⟩
      obtain ⟨t, e2⟩ := Value.isStrOf_shape (x := z) (v := e.2) q
      exact ⟨t, pm.mem_iff.mpr (List.mem_map.mpr ⟨e, he, e2⟩)⟩
  have few2 : vs.length ≤ sizeLine := by rw [lvs]; exact fits_of_scanBound few
  refine wpAny_bind (wpAny_newList ?_ few2)
  have hoL : (s1.heap.push (seqObj "list" vs.toArray 0)).get? s1.heap.objs.size = some (seqObj "list" vs.toArray 0) := Heap.get?_push_size _ rfl
  refine wpAny_bind (wpAny_holding (wpAny_call_entry slot_list_sort ⟨_, hoL, rfl⟩ entry_list_sort (list_sort_treeKAny strKind_oneLt hoL hS.keysOf (fun v₁ v₂ rest e => keyKind_strs (by rw [← e]; exact hS)) few2 fun st' hp hs => ⟨_, rfl, ?_⟩) (args_list_sort _)))
  obtain ⟨ys, g1', g2, g3⟩ := sorted_out_str hS hp hs
  obtain ⟨c, hc⟩ := sortedHeap_at (vs := vs) (out := (arrOf st').map (·.2)) hoL
  refine wpAny_pure ⟨_, rfl, hQ _ s1.heap.objs.size _ c ys (fun b u e => ?_) g1 o1 hz hc g1' g3 (fun z => by rw [g2.mem_iff, mem z]) (by rw [g2.length_eq, ← len, lvs])⟩
  have q := k1 b u e
  have lt := Heap.lt_size q
  show (sortedHeap (s1.heap.push (seqObj "list" vs.toArray 0)) s1.heap.objs.size vs _).get? b = some u
  rw [sortedHeap_old (Nat.ne_of_lt lt) (by rw [size_push']; exact Nat.lt_succ_of_lt lt)]
  exact Heap.get?_push_of_some _ q
end
end

/-! ### over the hand layer -/
section
variable {X : Cx}
def TxO (P : Program) (w : World) (a : Addr) (l : List Str) : HO := .ext fun h => TxR P w h a l
theorem txo_new {P : Program} {w : World} {H : Hp} {h : Heap} {a : Addr} {l : List Str} (R : TxR P w h a l) : ObjOk P w H h a (TxO P w a l) :=
  ⟨R, let ⟨⟨_, e, _⟩, _⟩ := R; ⟨_, e⟩, fun _ _ q k => q.keep k⟩

/-- set(xs) of a list or tuple of texts -/
def rSetS (K : PySem.W.Frag) (P : Program) (w : World) : List V → Hp → VK → Prop := fun vs H Q => ∃ (c : Addr) (xs : List Str), vs = [.ref c] ∧ (SqL K H c (xs.map V.str) ∨ SqT K H c (xs.map V.str)) ∧ xs.length < 4000 ∧
  ∀ (p : Addr) (l : List Str), H p = none → l.Nodup → (∀ z, z ∈ l ↔ z ∈ xs) → Q (.ref p) (upd H p (TxO P w p l))
theorem cr_setS (hc : X.calm = true) : CallR X (.type "set") (rSetS X.K X.prog X.w) := by
  intro pins s σ H vs us Q I r h
  obtain ⟨c, xs, rfl, hs, few, q⟩ := h
  rw [Vals.ref1 r]
  have hn : H s.heap.objs.size = none := I.hok.fresh (Nat.le_refl _)
  have fill : Fills X.prog X.w s c xs := by
    rcases hs with hs | hs
    · obtain ⟨its, rv, pl, hz⟩ := I.list hs
      exact fills_list pl.isList (by simpa using rv.strs) (by unfold scanBound; omega)
    · obtain ⟨its, rv, pl, hz⟩ := I.tuple hs
      exact fills_tuple pl (by simpa using rv.strs) (by unfold scanBound; omega)
  refine set_call (I.ok.hd hc) fill fun h' tk l T m k => ?_
  exact ⟨.ref s.heap.objs.size, _, I.laid (t' := tk) k (Nat.le_refl _) (txo_new T), rfl, q _ l hn T.2.1 m⟩

/-- sorted(a set of texts) -/
def rSortedX (P : Program) (w : World) : List V → Hp → VK → Prop := fun vs H Q => ∃ (a : Addr) (l : List Str), vs = [.ref a] ∧ H a = some (TxO P w a l) ∧
  ∀ (ys : List Str) (p : Addr), sortedS ys = true → (∀ z, z ∈ ys ↔ z ∈ l) → ys.length = l.length → H p = none → Q (.ref p) (upd H p (.lst (ys.map V.str)))
theorem cr_sortedX (hc : X.calm = true) : CallR X (.builtin "sorted") (rSortedX X.prog X.w) := by
  intro pins s σ H vs us Q I r h
  obtain ⟨a, l, rfl, ha, q⟩ := h
  have T : TxR X.prog X.w s.heap a l := (I.hok a _ ha).1
  rw [Vals.ref1 r]
  refine sorted_txr T (I.ok.hd hc) fun s' p out c ys k g o hp hg hS so m len => ?_
  have hn : H p = none := I.hok.fresh hp
  have few : (ys.map V.str).length ≤ sizeLine := by rw [List.length_map, len]; exact fits_of_scanBound T.2.2
  have J : Inv X pins σ (upd H p (.lst (ys.map V.str))) { s with heap := s'.heap, gens := s'.gens, drawn := s'.drawn, toks := s'.toks } :=
    I.call (ch := []) (Un.laid k hp hn) (I.hok.laid k hp ⟨few, out.toList, c, vals_of_strs hS, hg⟩) (by rw [g]; exact I.bare) fun _ z => nomatch z
  have e : s' = { s with heap := s'.heap, gens := s'.gens, drawn := s'.drawn, toks := s'.toks } := by
    rcases s' with ⟨_, _, _, _, _⟩
    cases o
    rfl
  rw [e]
  exact ⟨.ref p, _, J, rfl, q ys p so m len hn⟩
end
end Mf
/-! Operators of own classes (dunder methods that are plain defs), over the hand layer. -/
namespace Mf
open PySem PySem.Spec PyProof.Rows L2

section
variable {X : Cx} {CX : CXT} {k : Nat} {f C a dx : Addr} {fd : FuncData} {ps : List Str} {sp : Sp} {E : XK} {ds : List Value} {dvs : List V} {pins : List (Addr × Obj)} {σ : L2.St} {H : Hp} {s : Shared} {fs : List (Str × V)}

theorem Inv.inst (I : Inv X pins σ H s) (e : H a = some (.ins C dx fs)) : ∃ od, PySem.W.InstAt s.heap a (PySem.W.instObj C dx) C (some od) :=
  let ⟨_, O, _⟩ := ins_get I.hok e
  let ⟨od, i, _⟩ := O.look
  ⟨od, i⟩

/-- a def runs, from anywhere under the body X -/
theorem run_in {A : Around} {Q : VK} {us : List Value} {vs : List V} (F : FnOk X.prog X.w X.K X.mg X.base CX k f fd ps sp) (hr : Room k A) (hb : Binds X.K fd ps ds) (hd : Vals dvs ds) (hx : Passes CX X E)
    (e0 : Env0 X.prog X.w X.K X.mg X.base A X.stack s H) (I : Inv X pins σ H s) (r : Vals vs us) (h : sp (vs ++ dvs) H Q E) : wpAny (model X.prog X.w) A (call (.ref f) us) (EP X pins σ Q) X.xe s := by
  have r2 : Vals (vs ++ dvs) (us ++ ds) := r.append hd
  have hl : (us ++ ds).length = ps.length := by rw [← r2.length]; exact F.len _ _ _ _ h
  refine wpAny_call (codeAny_mono (F.run A X.stack s H ⟨us, []⟩ (us ++ ds) (vs ++ dvs) Q E hr e0 (hb s us I.kIn hl) r2 h) fun r s' hq => ?_)
  rcases r with e | fl
  · exact hx pins σ H s e s' I hq
  · rcases fl with _ | _ | _ | u
    all_goals first | exact False.elim hq | exact I.after hq

/-- what type the other operand has: it isn't below C -/
def NotBelow (K : PySem.W.Frag) (C : Addr) (y : V) (H : Hp) : Prop := ∃ t, TyX K H y t ∧ PySem.W.notFirst K C t = true

/-- x op y by the class's own def -/
def rCmpO (K : PySem.W.Frag) (C : Addr) (sp : Sp) (E : XK) : R2 := fun x y H Q => ∃ a dx fs, x = .ref a ∧ H a = some (.ins C dx fs) ∧ NotBelow K C y H ∧ sp [x, y] H Q E
theorem op_cmpO {op : CmpOp} (m : Meth X.K C (cmpInfo op).2.1 f) (F : FnOk X.prog X.w X.K X.mg X.base CX k f fd ps sp) (hr : Room k X.A) (hb : Binds X.K fd ps []) (hx : Passes CX X E)
    (hop : ∀ a b, compareOp op a b = richCompare op a b := by exact fun _ _ => rfl) : OpR X (compareOp op) (rCmpO X.K C sp E) := by
  intro pins s σ H x y v u Q I rx ry h
  obtain ⟨a, dx, fs, rfl, ha, ⟨t, ty, nb⟩, q⟩ := h
  cases (show v = Value.ref a from rx)
  obtain ⟨od, J⟩ := Inv.inst I ha
  obtain ⟨mm, hF⟩ := I.fr
  obtain ⟨Pk, Z, p, _⟩ := kit_of I ry ty
  rw [hop]
  refine PySem.W.cmp_K (op := op) (tb := t) hr.units0 hF I.ok.mod.kin J (Z.ty _ _ I.kIn p) nb m.at_ m.fn ?_
  refine wpAny_mono (run_in (us := [.ref a, u]) (vs := [.ref a, y]) F hr hb .nil hx I.env0 I (.cons rfl (.cons ry .nil)) (by rw [List.append_nil]; exact q)) (fun z s' e => ?_) fun _ _ e => e
  obtain ⟨z', H', I', rz, qz⟩ := e
  exact SlX.cmpback rz ⟨z', H', I', rz, qz⟩

/-- x != y by the class's own __eq__ -/
def rNeO (K : PySem.W.Frag) (C : Addr) (sp : Sp) (E : XK) : R2 := fun x y H Q => ∃ a dx fs, x = .ref a ∧ H a = some (.ins C dx fs) ∧ NotBelow K C y H ∧ sp [x, y] H (fun v H' => ∃ b, v = .bl b ∧ Q (.bl (!b)) H') E
theorem op_neO (m : Meth X.K C "__eq__" f) (ne : PySem.W.findIn X.K (.ref C) "__ne__" = some (some (.builtin "object.__ne__"))) (mo : PySem.W.mroIn X.K C (.type "object") = some true)
    (F : FnOk X.prog X.w X.K X.mg X.base CX k f fd ps sp) (hr : Room (k + 1) X.A) (hb : Binds X.K fd ps []) (hx : Passes CX X E) : OpR X (compareOp .NotEq) (rNeO X.K C sp E) := by
  intro pins s σ H x y v u Q I rx ry h
  obtain ⟨a, dx, fs, rfl, ha, ⟨t, ty, nb⟩, q⟩ := h
  cases (show v = Value.ref a from rx)
  obtain ⟨od, J⟩ := Inv.inst I ha
  obtain ⟨Pk, Z, p, _⟩ := kit_of I ry ty
  have Lb : PySem.W.Looks (model X.prog X.w) s.heap (typeOf u) t := Z.ty _ _ I.kIn p
  have core : wpAny (model X.prog X.w) X.A (call (.builtin "object.__ne__") [.ref a, u]) (EP X pins σ Q) X.xe s := by
    refine wpAny_call (codeAny_call_builtin PySem.F.cmp_object.ne.plain PySem.F.cmpEntry_ne (PySem.W.check_slot (i := "object.__ne__") (owner := "object") (n := "__ne__") PySem.F.cmpKind_ne PySem.F.cmpSplit_ne (J.type.andThen (PySem.W.looks_mroIn I.kIn mo)) (PySem.F.cmpArgs_ne _ _) ?_))
    unfold Builtin.«object.__ne__»
    refine wpAny_bind (m := slotArgs "__ne__" 1 _) (wpAny_pure ?_)
    refine wpAny_bind (m := cRoomFor _ _) (wpAny_cRoomFor (hr.in1).units0 ?_)
    refine wpAny_bind (m := callSpecialIfBound? (.ref a) (Str.ofString "__eq__") _) (PySem.W.ifBound_K I.kIn J m.at_ m.fn ?_)
    refine wpAny_mono (run_in (us := [.ref a, u]) (vs := [.ref a, y]) F hr.in1 hb .nil hx I.env0.in1 I (.cons rfl (.cons ry .nil)) (by rw [List.append_nil]; exact q)) (fun z s' e => ?_) fun _ _ e => e
    obtain ⟨z', H', I', rz, b, rfl, qz⟩ := e
    cases (show z = Value.bool b from rz)
    exact wpAny_bind (wpAny_truthy_bool (wpAny_pure ⟨.bl (!b), H', I', rfl, qz⟩))
  have one : wpAny (model X.prog X.w) X.A (tryCompare (.ref a) "__ne__" u) (fun r s' => ∃ v, r = some v ∧ EP X pins σ Q v s') X.xe s := by
    unfold tryCompare
    refine wpAny_bind ?_
    simp only [callSpecialIfBound?, bindSpecialIfBound?]
    refine wpAny_holding (wpAny_bind (wpAny_bind (wpAny_bind (J.type.here ((PySem.W.looks_findIn I.kIn ne).here ?_)))))
    simp only [PySem.F.cmp_object.ne.bind]
    have fin : wpAny (model X.prog X.w) X.A (call (.builtin "object.__ne__") ([.ref a] ++ [u]) >>= fun v => pure (some v)) (fun a_1 s' => wpAny (model X.prog X.w) X.A (match a_1 with
        | some Value.notImplemented | none => pure none
        | some v => pure (some v)) (fun r s' => ∃ v, r = some v ∧ EP X pins σ Q v s') X.xe s') X.xe s := by
      refine wpAny_bind (wpAny_mono core (fun z s' e => wpAny_pure ?_) fun _ _ e => e)
      have e2 := e
      obtain ⟨z', H', I', rz, qz⟩ := e2
      have nn : PySem.W.CmpBack (fun z s' => EP X pins σ Q z s') z s' := SlX.cmpback rz e
      cases z <;> first | exact nn.elim | exact wpAny_pure ⟨_, rfl, nn⟩
    refine wpAny_bind (wpAny_askSetting (wpAny_ite ?_))
    split
    · exact wpAny_bind (wpAny_pure (wpAny_pure fin))
    · exact wpAny_tryCatch (wpAny_bind (wpAny_pure (wpAny_pure fin)))
  show wpAny _ _ (richCompare .NotEq (.ref a) u) _ _ s
  unfold richCompare
  simp only [oneThing_ref]
  refine wpAny_holding (wpAny_bind (wpAny_cRoomFor hr.units0 ?_))
  refine wpAny_bind (J.type.here (wpAny_bind (Lb.here ?_)))
  split
  · rename_i h1
    have e : PySem.W.subIn X.K t (.ref C) = some false := by
      rcases Bool.or_eq_true_iff.mp nb with e | e
      · rw [beq_iff_eq.mp e] at h1; simp at h1
      · exact beq_iff_eq.mp e
    refine wpAny_bind ((PySem.W.looks_subIn I.kIn e).here ?_)
    simp only [Bool.false_eq_true, if_false]
    refine wpAny_bind (wpAny_mono one (fun r s' z => ?_) fun _ _ e => e)
    obtain ⟨v, rfl, hq⟩ := z
    exact wpAny_pure hq
  · refine wpAny_bind (wpAny_pure ?_)
    simp only [Bool.false_eq_true, if_false]
    refine wpAny_bind (wpAny_mono one (fun r s' z => ?_) fun _ _ e => e)
    obtain ⟨v, rfl, hq⟩ := z
    exact wpAny_pure hq

/-- x op y, both of the class -/
def rBinO (C : Addr) (sp : Sp) (E : XK) : R2 := fun x y H Q => ∃ a dx fs b dy gs, x = .ref a ∧ y = .ref b ∧ H a = some (.ins C dx fs) ∧ H b = some (.ins C dy gs) ∧ sp [x, y] H Q E
theorem op_binO {op : Operator} (m : Meth X.K C (PySem.dunder op.info.2) f) (sf : PySem.W.selfFirst X.K C = true) (F : FnOk X.prog X.w X.K X.mg X.base CX k f fd ps sp) (hr : Room k X.A) (hb : Binds X.K fd ps []) (hx : Passes CX X E) :
    OpR X (binaryOp op) (rBinO C sp E) := by
  intro pins s σ H x y v u Q I rx ry h
  obtain ⟨a, dx, fs, b, dy, gs, rfl, rfl, ha, hb', q⟩ := h
  cases (show v = Value.ref a from rx)
  cases (show u = Value.ref b from ry)
  obtain ⟨od, J⟩ := Inv.inst I ha
  obtain ⟨oe, J'⟩ := Inv.inst I hb'
  obtain ⟨mm, hF⟩ := I.fr
  refine PySem.W.binop_K hF I.ok.mod.kin J J'.type sf m.at_ m.fn ?_
  refine wpAny_mono (run_in (us := [.ref a, .ref b]) (vs := [.ref a, .ref b]) F hr hb .nil hx I.env0 I (.cons rfl (.cons rfl .nil)) (by rw [List.append_nil]; exact q)) (fun z s' e => ?_) fun _ _ e => e
  obtain ⟨z', H', I', rz, qz⟩ := e
  exact SlX.cmpback rz ⟨z', H', I', rz, qz⟩

/-- y in x, y not in x -/
def rInO (C : Addr) (neg : Bool) (sp : Sp) (E : XK) : R2 := fun y x H Q => ∃ a dx fs, x = .ref a ∧ H a = some (.ins C dx fs) ∧ sp [x, y] H (fun v H' => ∃ b, v = .bl b ∧ Q (.bl (if neg then !b else b)) H') E
theorem op_inO (m : Meth X.K C "__contains__" f) (F : FnOk X.prog X.w X.K X.mg X.base CX k f fd ps sp) (hr : Room k X.A) (hb : Binds X.K fd ps []) (hx : Passes CX X E) : OpR X (compareOp .In) (rInO C false sp E) := by
  intro pins s σ H y x u v Q I ry rx h
  obtain ⟨a, dx, fs, rfl, ha, q⟩ := h
  cases (show v = Value.ref a from rx)
  obtain ⟨od, J⟩ := Inv.inst I ha
  obtain ⟨mm, hF⟩ := I.fr
  refine PySem.W.in_K hF I.ok.mod.kin J m.at_ m.fn ?_
  refine wpAny_mono (run_in (us := [.ref a, u]) (vs := [.ref a, y]) F hr hb .nil hx I.env0 I (.cons rfl (.cons ry .nil)) (by rw [List.append_nil]; exact q)) (fun z s' e => ?_) fun _ _ e => e
  obtain ⟨z', H', I', rz, b, rfl, qz⟩ := e
  cases (show z = Value.bool b from rz)
  exact wpAny_truthy_bool ⟨.bl b, H', I', rfl, qz⟩
theorem op_notInO (m : Meth X.K C "__contains__" f) (F : FnOk X.prog X.w X.K X.mg X.base CX k f fd ps sp) (hr : Room k X.A) (hb : Binds X.K fd ps []) (hx : Passes CX X E) : OpR X (compareOp .NotIn) (rInO C true sp E) := by
  intro pins s σ H y x u v Q I ry rx h
  obtain ⟨a, dx, fs, rfl, ha, q⟩ := h
  cases (show v = Value.ref a from rx)
  obtain ⟨od, J⟩ := Inv.inst I ha
  obtain ⟨mm, hF⟩ := I.fr
  refine PySem.W.notIn_K hF I.ok.mod.kin J m.at_ m.fn ?_
  refine wpAny_mono (run_in (us := [.ref a, u]) (vs := [.ref a, y]) F hr hb .nil hx I.env0 I (.cons rfl (.cons ry .nil)) (by rw [List.append_nil]; exact q)) (fun z s' e => ?_) fun _ _ e => e
  obtain ⟨z', H', I', rz, b, rfl, qz⟩ := e
  cases (show z = Value.bool b from rz)
  exact wpAny_truthy_bool ⟨.bl (!b), H', I', rfl, qz⟩

/-- len(x) -/
def rLenO (C : Addr) (sp : Sp) (E : XK) : List V → Hp → VK → Prop := fun xs H Q => ∃ a dx fs, xs = [.ref a] ∧ H a = some (.ins C dx fs) ∧ sp xs H (fun v H' => ∃ n : Nat, v = .int n ∧ n < 2 ^ 62 ∧ Q v H') E
theorem call_lenO (m : Meth X.K C "__len__" f) (F : FnOk X.prog X.w X.K X.mg X.base CX k f fd ps sp) (hr : Room (k + 1) X.A) (hb : Binds X.K fd ps []) (hx : Passes CX X E) : CallR X (.builtin "len") (rLenO C sp E) := by
  intro pins s σ H xs us Q I r h
  obtain ⟨a, dx, fs, rfl, ha, q⟩ := h
  rw [Vals.ref1 r]
  obtain ⟨od, J⟩ := Inv.inst I ha
  obtain ⟨mm, hF⟩ := I.fr
  refine PySem.W.len_K hF I.ok.mod.kin J m.at_ m.fn ?_
  refine wpAny_mono (run_in (us := [.ref a]) (vs := [.ref a]) F hr.in1 hb .nil hx I.env0.in1 I (.cons rfl .nil) (by rw [List.append_nil]; exact q)) (fun z s' e => ?_) fun _ _ e => e
  obtain ⟨z', H', I', rz, n, rfl, hn, qz⟩ := e
  obtain ⟨t, rfl⟩ := (show ∃ t, z = Value.int n t from rz)
  exact ⟨⟨by omega, by omega⟩, .int n, H', I'.tok _, ⟨_, rfl⟩, qz⟩

/-- x[y] -/
def rGetO (C : Addr) (sp : Sp) (E : XK) : R2 := fun x y H Q => ∃ a dx fs, x = .ref a ∧ H a = some (.ins C dx fs) ∧ sp [x, y] H Q E
theorem pe_getO {o i : Expr} {to ti : TE} {pos : Pos} (m : Meth X.K C "__getitem__" f) (fn : PySem.W.fnIn X.K f = true) (F : FnOk X.prog X.w X.K X.mg X.base CX k f fd ps sp) (hr : Room (k + 1) X.A) (hb : Binds X.K fd ps []) (hx : Passes CX X E) (ho : PE X o to) (hi : PE X i ti)
    (hsl : ∀ x y, subscripted i true x y = runValue (.builtin "lifetime.subscript" ⟨[x, y], []⟩) := by intro _ _; with_unfolding_all rfl) : PE X (.Subscript o i pos) (tOp (rGetO C sp E) to ti) := by
  refine ⟨fun pins s σ H Q I h => ?_⟩
  refine Subscript_ (binT ho hi I h fun v u s2 x y H2 I2 rx ry q => ?_)
  obtain ⟨a, dx, fs, rfl, ha, q⟩ := q
  cases (show v = Value.ref a from rx)
  obtain ⟨od, J⟩ := Inv.inst I2 ha
  obtain ⟨mm, hF⟩ := I2.fr
  refine PySem.W.sub_K hF I2.ok.mod.kin J m.at_ fn m.fn ?_ (hsl _ _)
  exact run_in (us := [.ref a, u]) (vs := [.ref a, y]) F hr.in1 hb .nil hx I2.env0.in1 I2 (.cons rfl (.cons ry .nil)) (by rw [List.append_nil]; exact q)
end
end Mf
/-! Sorted texts: the order, and that a sorted row without repeats is the only one of its members. -/
namespace Mf
open PySem L2
theorem lt_irr : ∀ l : List Nat, Spec.ltCps l l = false
  | [] => rfl
  | a :: r => by
    show (decide (a < a) || (a == a && Spec.ltCps r r)) = false
    rw [lt_irr r]; simp
theorem lt_asym : ∀ l m : List Nat, Spec.ltCps l m = true → Spec.ltCps m l = false
  | [], [], h => rfl
  | [], _ :: _, _ => rfl
  | _ :: _, [], h => by cases h
  | a :: r, b :: t, h => by
    have h : (decide (a < b) || (a == b && Spec.ltCps r t)) = true := h
    show (decide (b < a) || (b == a && Spec.ltCps t r)) = false
    simp only [Bool.or_eq_true, decide_eq_true_eq, Bool.and_eq_true, beq_iff_eq] at h
    simp only [Bool.or_eq_false_iff, decide_eq_false_iff_not, Bool.and_eq_false_iff, beq_eq_false_iff_ne]
    rcases h with h2 | ⟨rfl, h2⟩
    · exact ⟨by omega, .inl (by omega)⟩
    · exact ⟨by omega, .inr (lt_asym r t h2)⟩
theorem lt_tri : ∀ l m : List Nat, Spec.ltCps l m = false → Spec.ltCps m l = false → l = m
  | [], [], _, _ => rfl
  | [], _ :: _, h, _ => by cases h
  | _ :: _, [], _, h => by cases h
  | a :: r, b :: t, h, g => by
    have h : (decide (a < b) || (a == b && Spec.ltCps r t)) = false := h
    have g : (decide (b < a) || (b == a && Spec.ltCps t r)) = false := g
    simp only [Bool.or_eq_false_iff, decide_eq_false_iff_not, Bool.and_eq_false_iff, beq_eq_false_iff_ne] at h g
    obtain rfl : a = b := by omega
    rw [lt_tri r t (h.2.resolve_left fun n => n rfl) (g.2.resolve_left fun n => n rfl)]
theorem lt_trans : ∀ l m n : List Nat, Spec.ltCps l m = true → Spec.ltCps m n = true → Spec.ltCps l n = true
  | [], [], _, h, _ => by cases h
  | [], _ :: _, [], _, h => by cases h
  | [], _ :: _, _ :: _, _, _ => rfl
  | _ :: _, [], _, h, _ => by cases h
  | _ :: _, _ :: _, [], _, h => by cases h
  | a :: r, b :: t, c :: u, h, g => by
    have h : (decide (a < b) || (a == b && Spec.ltCps r t)) = true := h
    have g : (decide (b < c) || (b == c && Spec.ltCps t u)) = true := g
    show (decide (a < c) || (a == c && Spec.ltCps r u)) = true
    simp only [Bool.or_eq_true, decide_eq_true_eq, Bool.and_eq_true, beq_iff_eq] at h g ⊢
    rcases h with h2 | ⟨rfl, h2⟩
    · rcases g with g2 | ⟨rfl, g2⟩
      · left; omega
      · left; exact h2
    · rcases g with g2 | ⟨rfl, g2⟩
      · left; exact g2
      · right; exact ⟨rfl, lt_trans r t u h2 g2⟩
def Lt (x y : Str) : Prop := Spec.ltCps x.cps.toList y.cps.toList = true
theorem Lt.ne {x y : Str} (h : Lt x y) : x ≠ y := fun e => by subst e; unfold Lt at h; rw [lt_irr] at h; cases h
theorem Lt.asymm {x y : Str} (h : Lt x y) : ¬ Lt y x := fun g => by unfold Lt at h g; rw [lt_asym _ _ h] at g; cases g
theorem Lt.trans {x y z : Str} (h : Lt x y) (g : Lt y z) : Lt x z := lt_trans _ _ _ h g
theorem not_lt {x y : Str} (h : Spec.ltCps y.cps.toList x.cps.toList = false) (n : x ≠ y) : Lt x y := by
  unfold Lt
  cases e : Spec.ltCps x.cps.toList y.cps.toList with
  | true => rfl
  | false => exact absurd (tl_inj (lt_tri _ _ e h)) n
/-- in order, each once -/
def Up (l : List Str) : Prop := l.Pairwise Lt
theorem Up.nd {l : List Str} (h : Up l) : l.Nodup := List.Pairwise.imp (fun h => h.ne) h
theorem rising_up : ∀ (l : List Str) (p : Str), PyProof.Rows.risingS p l = true → (p :: l).Nodup → Up (p :: l)
  | [], p, _, _ => List.pairwise_singleton _ _
  | x :: r, p, h, nd => by
    have h : (!Spec.ltCps x.cps.toList p.cps.toList && PyProof.Rows.risingS x r) = true := h
    obtain ⟨h1, h2⟩ := Bool.and_eq_true_iff.mp h
    obtain ⟨n1, n2⟩ := List.nodup_cons.mp nd
    have u := rising_up r x h2 n2
    have px : Lt p x := not_lt (by simpa using h1) fun e => n1 (e ▸ List.mem_cons_self)
    refine List.pairwise_cons.mpr ⟨fun y hy => ?_, u⟩
    rcases List.mem_cons.mp hy with rfl | hy
    · exact px
    · exact px.trans ((List.pairwise_cons.mp u).1 y hy)
theorem up_of {l : List Str} (h : PyProof.Rows.sortedS l = true) (nd : l.Nodup) : Up l := by
  cases l with
  | nil => exact List.Pairwise.nil
  | cons x r => exact rising_up r x h nd
theorem up_one : ∀ {xs ys : List Str}, Up xs → Up ys → (∀ z, z ∈ xs ↔ z ∈ ys) → xs = ys
  | [], [], _, _, _ => rfl
  | [], y :: _, _, _, h => absurd ((h y).mpr List.mem_cons_self) (by simp)
  | x :: _, [], _, _, h => absurd ((h x).mp List.mem_cons_self) (by simp)
  | x :: xs, y :: ys, u, v, h => by
    obtain ⟨u1, u2⟩ := List.pairwise_cons.mp u
    obtain ⟨v1, v2⟩ := List.pairwise_cons.mp v
    have e : x = y := by
      rcases List.mem_cons.mp ((h x).mp List.mem_cons_self) with e | m
      · exact e
      · rcases List.mem_cons.mp ((h y).mpr List.mem_cons_self) with e | m'
        · exact e.symm
        · exact absurd (u1 y m') (v1 x m).asymm
    subst e
    rw [up_one u2 v2 fun z => ?_]
    constructor
    · intro m
      rcases List.mem_cons.mp ((h z).mp (List.mem_cons_of_mem _ m)) with e | q
      · exact absurd e.symm (u1 z m).ne
      · exact q
    · intro m
      rcases List.mem_cons.mp ((h z).mpr (List.mem_cons_of_mem _ m)) with e | q
      · exact absurd e.symm (v1 z m).ne
      · exact q
theorem nodup_le {α : Type} [DecidableEq α] : ∀ {l m : List α}, l.Nodup → l ⊆ m → l.length ≤ m.length
  | [], _, _, _ => Nat.zero_le _
  | x :: l, m, nd, sub => by
    obtain ⟨n1, n2⟩ := List.nodup_cons.mp nd
    have hx : x ∈ m := sub List.mem_cons_self
    have ih := nodup_le (m := m.erase x) n2 fun y hy => (List.mem_erase_of_ne (by rintro rfl; exact n1 hy)).mpr (sub (List.mem_cons_of_mem _ hy))
    rw [List.length_erase_of_mem hx] at ih
    have := List.length_pos_of_mem hx
    rw [List.length_cons]
    omega
theorem nodup_len {α : Type} [DecidableEq α] : ∀ {ys l : List α}, l.Nodup → l ⊆ ys → ys.length = l.length → ys.Nodup
  | [], _, _, _, _ => List.nodup_nil
  | y :: ys, l, nd, sub, e => by
    have hy : y ∈ l := Classical.byContradiction fun n => by
      have q := nodup_le (m := ys) nd fun z hz => (List.mem_cons.mp (sub hz)).resolve_left (by rintro rfl; exact n hz)
      rw [List.length_cons] at e
      omega
    have ny : y ∉ ys := fun m => by
      have q := nodup_le (m := ys) nd fun z hz => by
        rcases List.mem_cons.mp (sub hz) with rfl | h
        · exact m
        · exact h
      rw [List.length_cons] at e
      omega
    refine List.nodup_cons.mpr ⟨ny, nodup_len (l := l.erase y) (nd.erase y) (fun z hz => ?_) ?_⟩
    · obtain ⟨h1, h2⟩ := (nd.mem_erase_iff).mp hz
      exact (List.mem_cons.mp (sub h2)).resolve_left h1
    · rw [List.length_erase_of_mem hy, ← e, List.length_cons]; rfl
theorem sum_len {ys : List Str} {B : Nat} (h : ∀ y ∈ ys, y.length ≤ B) : (ys.map (·.length)).sum ≤ ys.length * B := by
  induction ys with
  | nil => simp
  | cons y ys ih =>
    rw [List.map_cons, List.sum_cons, List.length_cons, Nat.succ_mul]
    have a := h y List.mem_cons_self
    have b := ih fun z hz => h z (List.mem_cons_of_mem _ hz)
    omega
theorem flat_strs (zs : List Str) : (zs.map V.str).all flatV = true := by rw [List.all_map]; exact List.all_eq_true.mpr fun _ _ => rfl

/-! ### data that are compared -/
theorem dpS {K : PySem.W.Frag} {H : Hp} : ∀ zs : List Str, DpAll K H (zs.map V.str) (zs.map PyData.str)
  | [] => .nil
  | z :: zs => .cons (.str z) (dpS zs)
theorem dpB {K : PySem.W.Frag} {H : Hp} : ∀ bs : List Bool, DpAll K H (bs.map V.bl) (bs.map PyData.bool)
  | [] => .nil
  | b :: bs => .cons (.bl b) (dpB bs)
theorem eqvB : ∀ bs cs : List Bool, PyData.eqvAll (bs.map PyData.bool) (cs.map PyData.bool) = decide (bs = cs)
  | [], [] => rfl
  | [], _ :: _ => rfl
  | _ :: _, [] => rfl
  | b :: bs, c :: cs => by
    show ((b == c) && PyData.eqvAll (bs.map PyData.bool) (cs.map PyData.bool)) = _
    rw [eqvB bs cs]
    by_cases h : b = c <;> simp [h]
theorem eqvS : ∀ bs cs : List Str, PyData.eqvAll (bs.map PyData.str) (cs.map PyData.str) = decide (bs = cs)
  | [], [] => rfl
  | [], _ :: _ => rfl
  | _ :: _, [] => rfl
  | b :: bs, c :: cs => by
    show ((b == c) && PyData.eqvAll (bs.map PyData.str) (cs.map PyData.str)) = _
    rw [eqvS bs cs]
    by_cases h : b = c <;> simp [h]
theorem layB : ∀ bs : List Bool, PyData.canLayAll0 (bs.map PyData.bool) = true
  | [] => rfl
  | b :: bs => by show (true && PyData.canLayAll0 (bs.map PyData.bool)) = true; rw [layB bs]; rfl
theorem layS : ∀ zs : List Str, (∀ z ∈ zs, PyData.strOk z = true) → PyData.canLayAll0 (zs.map PyData.str) = true
  | [], _ => rfl
  | z :: zs, h => by
    show (PyData.strOk z && PyData.canLayAll0 (zs.map PyData.str)) = true
    rw [h z List.mem_cons_self, layS zs fun y hy => h y (List.mem_cons_of_mem _ hy)]; rfl
theorem depAll : ∀ {ds : List PyData}, (∀ d ∈ ds, PyData.depth d = 0) → PyData.depthAll ds = 0
  | [], _ => rfl
  | d :: ds, h => by
    show max (PyData.depth d) (PyData.depthAll ds) = 0
    rw [h d List.mem_cons_self, depAll fun y hy => h y (List.mem_cons_of_mem _ hy)]; rfl
theorem shB (bs : List Bool) : SeqAt.shaped (.list (bs.map PyData.bool)) = true := by
  refine Bool.and_eq_true_iff.mpr ⟨layB bs, decide_eq_true ?_⟩
  show PyData.depthAll (bs.map PyData.bool) + 1 ≤ 64
  rw [depAll fun d hd => by obtain ⟨b, _, rfl⟩ := List.mem_map.mp hd; rfl]
  decide
theorem shT {zs : List Str} (h : ∀ z ∈ zs, PyData.strOk z = true) : SeqAt.shaped (.tuple (zs.map PyData.str)) = true := by
  refine Bool.and_eq_true_iff.mpr ⟨layS zs h, decide_eq_true ?_⟩
  show PyData.depthAll (zs.map PyData.str) + 1 ≤ 64
  rw [depAll fun d hd => by obtain ⟨b, _, rfl⟩ := List.mem_map.mp hd; rfl]
  decide
theorem shL {zs : List Str} (h : ∀ z ∈ zs, PyData.strOk z = true) : SeqAt.shaped (.list (zs.map PyData.str)) = true := by
  refine Bool.and_eq_true_iff.mpr ⟨layS zs h, decide_eq_true ?_⟩
  show PyData.depthAll (zs.map PyData.str) + 1 ≤ 64
  rw [depAll fun d hd => by obtain ⟨b, _, rfl⟩ := List.mem_map.mp hd; rfl]
  decide
theorem IsName.ok {z : Str} (h : IsName z) : PyData.strOk z = true := by
  show z.cps.all (fun x => decide (x < 1114112)) = true
  rw [← Array.all_toList, List.all_eq_true]
  intro c hc
  have := (h.2.2 c hc).2
  exact decide_eq_true (by omega)
end Mf
/-! Classes and methods by one fact each; readings of the own operators. -/
namespace Mf
open PySem L2
/-- C(..): the class at C, its __init__'s promise, the defaults that fill up -/
structure CalC (P : Program) (w : World) (K : PySem.W.Frag) (mg : Str → Option Value) (base : Heap) (CX : CXT) (k : Nat) (x : Str) (C : Addr) (ps : List Str) (sp : Sp) (dvs : List V) : Prop where
  ex : ∃ (f : Addr) (fd : FuncData) (ds : List Value), Mk K C f ∧ FnOk P w K mg base CX k f fd ps sp ∧ mg x = some (.ref C) ∧ Binds K fd ps ds ∧ Vals dvs ds
/-- a method -/
structure CalM (P : Program) (w : World) (K : PySem.W.Frag) (mg : Str → Option Value) (base : Heap) (CX : CXT) (k : Nat) (C : Addr) (m : Str) (ps : List Str) (sp : Sp) : Prop where
  ex : ∃ (f : Addr) (fd : FuncData), Meth K C m f ∧ PySem.W.fnIn K f = true ∧ FnOk P w K mg base CX k f fd ps sp ∧ Binds K fd ps []
section
variable {X : Cx} {CX : CXT} {k : Nat} {x m : Str} {C : Addr} {ps : List Str} {sp : Sp} {dvs : List V} {E : XK} {e o : Expr} {es : List Expr} {t : TA} {p pos apos : Pos} {ta to ti : TE}
theorem pe_mkc (c : CalC X.prog X.w X.K X.mg X.base CX k x C ps sp dvs) (hr : Room (k + 1) X.A) (hx : Passes CX X E) (ha : PA X (e :: es) t) (hg : Gl X x := by rfl)
    (hdb : (x == ("__debug__" : Str)) = false := by decide) (he : starEach (e :: es) X.env = (false, eval e X.env) :: starEach es X.env := by rfl) (hpl : (backTo pos (starEach es X.env)).any (·.1) = false := by rfl) :
    PE X (.Call (.Name x p) (e :: es) [] pos) (tMake C sp dvs E t) := by
  obtain ⟨f, fd, ds, M, F, mm, b, v⟩ := c.ex
  exact pe_make M F hr hg mm b v hx ha hdb he hpl
theorem pe_mkc0 (c : CalC X.prog X.w X.K X.mg X.base CX k x C ps sp dvs) (hr : Room (k + 1) X.A) (hx : Passes CX X E) (hg : Gl X x := by rfl) (hdb : (x == ("__debug__" : Str)) = false := by decide) :
    PE X (.Call (.Name x p) [] [] pos) (tMake C sp dvs E tNil) := by
  obtain ⟨f, fd, ds, M, F, mm, b, v⟩ := c.ex
  exact pe_make0 M F hr hg mm b v hx hdb
theorem om_cmp {op : CmpOp} (K : PySem.W.Frag) (c : CalM X.prog X.w X.K X.mg X.base CX k C (cmpInfo op).2.1 ps sp) (hr : Room k X.A) (hx : Passes CX X E) (hop : ∀ a b, compareOp op a b = richCompare op a b := by exact fun _ _ => rfl) (h : X.K = K := by rfl) : OpR X (compareOp op) (rCmpO K C sp E) := by
  obtain ⟨f, fd, M, _, F, b⟩ := c.ex
  exact h ▸ op_cmpO M F hr b hx hop
theorem om_ne (K : PySem.W.Frag) (c : CalM X.prog X.w X.K X.mg X.base CX k C "__eq__" ps sp) (ne : PySem.W.findIn X.K (.ref C) "__ne__" = some (some (.builtin "object.__ne__"))) (mo : PySem.W.mroIn X.K C (.type "object") = some true)
    (hr : Room (k + 1) X.A) (hx : Passes CX X E) (h : X.K = K := by rfl) : OpR X (compareOp .NotEq) (rNeO K C sp E) := by
  obtain ⟨f, fd, M, _, F, b⟩ := c.ex
  exact h ▸ op_neO M ne mo F hr b hx
theorem om_bin {op : Operator} (c : CalM X.prog X.w X.K X.mg X.base CX k C (PySem.dunder op.info.2) ps sp) (sf : PySem.W.selfFirst X.K C = true) (hr : Room k X.A) (hx : Passes CX X E) : OpR X (binaryOp op) (rBinO C sp E) := by
  obtain ⟨f, fd, M, _, F, b⟩ := c.ex
  exact op_binO M sf F hr b hx
theorem om_in (c : CalM X.prog X.w X.K X.mg X.base CX k C "__contains__" ps sp) (hr : Room k X.A) (hx : Passes CX X E) : OpR X (compareOp .In) (rInO C false sp E) := by
  obtain ⟨f, fd, M, _, F, b⟩ := c.ex
  exact op_inO M F hr b hx
theorem om_notIn (c : CalM X.prog X.w X.K X.mg X.base CX k C "__contains__" ps sp) (hr : Room k X.A) (hx : Passes CX X E) : OpR X (compareOp .NotIn) (rInO C true sp E) := by
  obtain ⟨f, fd, M, _, F, b⟩ := c.ex
  exact op_notInO M F hr b hx
theorem om_len (c : CalM X.prog X.w X.K X.mg X.base CX k C "__len__" ps sp) (hr : Room (k + 1) X.A) (hx : Passes CX X E) : CallR X (.builtin "len") (rLenO C sp E) := by
  obtain ⟨f, fd, M, _, F, b⟩ := c.ex
  exact call_lenO M F hr b hx
theorem om_get {i : Expr} (c : CalM X.prog X.w X.K X.mg X.base CX k C "__getitem__" ps sp) (hr : Room (k + 1) X.A) (hx : Passes CX X E) (ho : PE X o to) (hi : PE X i ti)
    (hsl : ∀ x y, subscripted i true x y = runValue (.builtin "lifetime.subscript" ⟨[x, y], []⟩) := by intro _ _; with_unfolding_all rfl) : PE X (.Subscript o i pos) (tOp (rGetO C sp E) to ti) := by
  obtain ⟨f, fd, M, fn, F, b⟩ := c.ex
  exact pe_getO M fn F hr b hx ho hi hsl
theorem om_meth {pl : Sem Bool} (he : PE X o ta) (c : Cls X.K C) (cm : CalM X.prog X.w X.K X.mg X.base CX k C m ps sp) (hr : Room k X.A) (hx : Passes CX X E) (ha : PA X (e :: es) t)
    (hst : starEach (e :: es) X.env = (false, eval e X.env) :: starEach es X.env := by rfl) (hpl : (backTo pos (starEach es X.env)).any (·.1) = false := by rfl)
    (ht : eval (.Call (.Attribute o m apos) (e :: es) [] pos) X.env = (do
      let ov ← eval o X.env
      standAt apos.atName
      let (f, first) ← holding [ov] (getMethod ov m pl)
      callWith pos f first (backTo pos (starEach (e :: es) X.env)) (backToKw pos (keywordEach [] X.env))) := by rfl) :
    PE X (.Call (.Attribute o m apos) (e :: es) [] pos) (tMeth C m sp [] E ta t) := by
  obtain ⟨f, fd, M, fn, F, b⟩ := cm.ex
  exact pe_meth he c M F hr b .nil hx ha hst hpl ht
theorem om_meth0 {pl : Sem Bool} (he : PE X o ta) (c : Cls X.K C) (cm : CalM X.prog X.w X.K X.mg X.base CX k C m ps sp) (hr : Room k X.A) (hx : Passes CX X E)
    (ht : eval (.Call (.Attribute o m apos) [] [] pos) X.env = (do
      let ov ← eval o X.env
      standAt apos.atName
      let (f, first) ← holding [ov] (getMethod ov m pl)
      callWith pos f first (backTo pos (starEach [] X.env)) (backToKw pos (keywordEach [] X.env))) := by rfl) :
    PE X (.Call (.Attribute o m apos) [] [] pos) (tMeth C m sp [] E ta tNil) := by
  obtain ⟨f, fd, M, fn, F, b⟩ := cm.ex
  exact pe_meth0 he c M F hr b .nil hx ht
end
/-- c and b, where b is asked without a change of the heap -/
theorem and_then {c b : Bool} {σ : L2.St} {H : Hp} {tb : TE} {Q : VK} (ht : c = true → ∀ Q' : VK, Q' (.bl b) H → tb σ H Q') (k : Q (.bl (c && b)) H) : if c = true then tb σ H Q else Q (.bl false) H := by
  cases c with
  | true => exact iteT (ht rfl Q (by simpa using k))
  | false => exact iteF k
end Mf
/-! From the head's facts to calls. -/
namespace Mf
open PySem L2
theorem kit_self {K : PySem.W.Frag} {C : Addr} : PySem.W.kitOne K (.ref C) (.ref C) = some true := by unfold PySem.W.kitOne; rw [if_pos (by simp)]
theorem kit_own {K : PySem.W.Frag} {C : Addr} {T : String} {b : Bool} (i : PySem.W.isClsIn K C = true) (t : PySem.W.typeIn K (.ref C) = some (.type "type")) (s : PySem.W.subIn K (.type T) (.ref C) = some b) : PySem.W.kitOne K (.type T) (.ref C) = some b := by
  have i' : (PySem.W.clsIn K C).isSome = true := i
  unfold PySem.W.kitOne PySem.W.kitCls
  rw [if_neg (by simp)]
  show (if ((PySem.W.clsIn K C).isSome && PySem.W.typeIn K (.ref C) == some (.type "type")) = true then PySem.W.subIn K (.type T) (.ref C) else none) = some b
  rw [if_pos (by rw [i', t]; rfl)]
  exact s
theorem notFirst_of {K : PySem.W.Frag} {C : Addr} {T : String} (s : PySem.W.subIn K (.type T) (.ref C) = some false) : PySem.W.notFirst K C (.type T) = true := by
  unfold PySem.W.notFirst
  rw [s]; simp
/-- a def of the text as it stands behind the top -/
structure DefF (K : PySem.W.Frag) (x : Str) (st : Stmt) (f : Addr) : Prop where
  ex : ∃ (oc : Value) (od : Option Addr) (sl : Array (Option Value)) (kV dc pm : Value) (an : Option Addr) (cd ct : Value), PySem.W.nsIn K mainGlobals x = some (some (.ref f)) ∧
    K.lookup f = some ⟨oc, od, .func (PySem.W.fnOf x x (defArgs st) (defBody st) (defScope st) .none kV dc pm an cd ct), sl⟩ ∧ PySem.W.codeIn K cd x = true ∧ PySem.W.keepIn K (.ref f) = true
/-- a method of the class at C -/
structure MetF (K : PySem.W.Frag) (C : Addr) (m qual : Str) (st : Stmt) (f : Addr) : Prop where
  ex : ∃ (oc : Value) (od : Option Addr) (sl : Array (Option Value)) (kV dc pm : Value) (an : Option Addr) (cd ct : Value), PySem.W.findIn K (.ref C) m = some (some (.ref f)) ∧
    K.lookup f = some ⟨oc, od, .func (PySem.W.fnOf m qual (defArgs st) (defBody st) (defScope st) .none kV dc pm an cd ct), sl⟩ ∧ PySem.W.codeIn K cd qual = true ∧ PySem.W.keepIn K (.ref f) = true ∧ PySem.W.isFn K (.ref f) = true ∧ PySem.W.fnIn K f = true
section
variable {P : Program} {w : World} {K : PySem.W.Frag} {mg : Str → Option Value} {base h : Heap} {CX : CXT} {k : Nat} {x m qual : Str} {st : Stmt} {f C : Addr} {ps : List Str} {sp : Sp}
abbrev BindP (x qual : Str) (st : Stmt) (ps : List Str) : Prop := ∀ (kV doc pm : Value) (an : Option Addr) (cdv ct : Value) (us : List Value), us.length = ps.length → bindArgs (PySem.W.fnOf x qual (defArgs st) (defBody st) (defScope st) .none kV doc pm an cdv ct) ⟨us, []⟩ = pure (ps.zip us)
theorem DefF.cal (D : DefF K x st f) (X : K.In h) (G : h.Ns mainGlobals mg) (hb : BindP x x st ps) (ok : ∀ fd, Fun K x x st f fd → FnOk P w K mg base CX k f fd ps sp) : Cal P w K mg base CX k x ps sp := by
  obtain ⟨oc, od, sl, kV, dc, pm, an, cd, ct, a, l, c, q⟩ := D.ex
  have F := fun_mk (st := st) l c q
  exact ⟨⟨f, _, ok _ F, PySem.W.mg_of X G a, q, F.binds hb⟩⟩
theorem MetF.cal (D : MetF K C m qual st f) (hb : BindP m qual st ps) (ok : ∀ fd, Fun K m qual st f fd → FnOk P w K mg base CX k f fd ps sp) : CalM P w K mg base CX k C m ps sp := by
  obtain ⟨oc, od, sl, kV, dc, pm, an, cd, ct, a, l, c, q, i, n⟩ := D.ex
  have F := fun_mk (st := st) l c q
  exact ⟨⟨f, _, ⟨a, i, q⟩, n, ok _ F, F.binds hb⟩⟩
/-- the law itself -/
theorem DefF.law {fa : Addr} (D : DefF K "law" st f) (X : K.In h) (G : h.Ns mainGlobals mg) (hfa : mg "law" = some (.ref fa)) (hb : ∀ (kV doc pm : Value) (an : Option Addr) (cdv ct : Value) (s : Shared) (v : Value), BindsTo s (PySem.W.fnOf "law" "law" (defArgs st) (defBody st) (defScope st) .none kV doc pm an cdv ct) ⟨[v], []⟩ [("_law_script", v)])
    (ok : ∀ base : Heap, K.In base → base.Ns mainGlobals mg → ∀ fd, Fun K "law" "law" st f fd → FnOk P w K mg base CX0 k f fd ["_law_script"] sp) :
    ∃ fd : FuncData, (∀ (s : Shared) (v : Value), BindsTo s fd ⟨[v], []⟩ [("_law_script", v)]) ∧ ∀ base : Heap, K.In base → base.Ns mainGlobals mg → FnOk P w K mg base CX0 k fa fd ["_law_script"] sp := by
  obtain ⟨oc, od, sl, kV, dc, pm, an, cd, ct, a, l, c, q⟩ := D.ex
  have e := hfa.symm.trans (PySem.W.mg_of X G a)
  cases e
  exact ⟨_, hb kV dc pm an cd ct, fun base b1 b2 => ok base b1 b2 _ (fun_mk (st := st) l c q)⟩
/-- what a law takes and gives -/
def spLaw (K : PySem.W.Frag) : Sp := fun vs H Q _ => ∃ (a : Addr) (ns : List Int), vs = [.ref a] ∧ SqL K H a (ns.map V.int) ∧ ns.length ≤ 63 ∧ ∀ H', Q (.bl true) H'
end
theorem walk {n : Nat} {l : PySem.W.OpenLaw} {q : Program} {loose : List Str} {XP : (Str → Option Value) → Heap → Prop} {YP : World → Heap → Prop} {d : DefRec} {K : Params → PySem.W.Frag} (hn : l.most = some 63) (hdf : d.params.defaults = [])
    (hr : Room n callerA)
    (hY : ∀ (w : World) (h : Heap), YP w h → (K w.params).In h)
    (F : ∀ (w : World) (mg : Str → Option Value) (fa : Addr) (h : Heap), (K w.params).In h → h.Ns mainGlobals mg → mg d.name = some (.ref fa) →
      ∃ fd : FuncData, (∀ (s : Shared) (u : Value), BindsTo s fd ⟨[u], []⟩ [("_law_script", u)]) ∧ ∀ base : Heap, (K w.params).In base → base.Ns mainGlobals mg → FnOk l.prog w (K w.params) mg base CX0 n fa fd ["_law_script"] (spLaw (K w.params))) :
    PySem.W.WalkO q loose XP YP l.row.toRowW d [] (fun f vs => PySem.call f vs) :=
  L2.walk_of (n := 63) (k := n) (x := "_law_script") (CX := fun _ => CX0) (sp := fun w => spLaw (K w.params)) hn (by decide) hdf hr hY F (fun _ _ a ns hl _ hS => ⟨a, ns, rfl, hS, hl, fun _ => rfl⟩) fun _ _ _ _ _ z => z
end Mf
/-! Counting loops that begin at another number. -/
namespace Mf
open PySem L2

/-- what such a loop yields; G i H x: the i-th thing is x -/
def ItN (k₀ : Int) (go : Nat → Hp → Prop) (stop : Nat → Hp → Prop) (is : Nat → Hp → V → Prop) : It :=
  { go := go, stop := stop, yld := fun i H v H' => ∃ T x, v = .ref T ∧ H T = none ∧ H' = upd H T (.tup [.int (k₀ + i), x]) ∧ is i H x }

/-- the turns, over any source that draws -/
theorem turn_from {P : Program} {w : World} {K : W.Frag} {elts : List PySem.Expr} {kk : Nat} {tpos : Pos} (k₀ : Int) (e it : Addr)
    {go stop : Nat → Hp → Prop} {is : Nat → Hp → V → Prop} {SI : Nat → Heap → Prop}
    (obj : ∀ i h, SI i h → ∃ o, h.get? it = some o ∧ ∀ v : Option Value, o.data ≠ .cell v)
    (keep : ∀ i h h', SI i h → (∀ o, h.get? it = some o → h'.get? it = some o) → SI i h')
    (src : ∀ (X : Cx), X.prog = P → X.w = w → X.K = K → X.calm = true → ∀ (i : Nat) (pins : List (Addr × Obj)) (s : Shared) (σ : St) (H : Hp),
      L2.Inv X pins σ H s → (∀ b ∈ [e, it], FpOk X pins H b) → (∃ old, IsEnum s.heap e it (k₀ + i) old) → SI i s.heap → e ≠ it → (go i H ∨ stop i H) →
      ∃ (n : Nat) (fp : List Addr) (S : Nat → Heap → Prop) (Q : Nat → Value → Prop), Draws P w (Around.in1 X.A) it fp n Q S ∧ S i s.heap ∧ e ∉ fp ∧
        (go i H → i < n) ∧ (stop i H → i = n) ∧ (∀ h, S (i + 1) h → SI (i + 1) h) ∧ ∀ v, Q i v → go i H → ∃ x, RelV x v ∧ is i H x) :
    Turn P w K (.Tuple elts kk tpos) (ItN k₀ go stop is) [e, it] e fun i h => (∃ old, IsEnum h e it (k₀ + i) old) ∧ SI i h ∧ e ≠ it := by
  have mE : e ∈ [e, it] := List.mem_cons_self
  have mI : it ∈ [e, it] := List.mem_cons_of_mem _ List.mem_cons_self
  refine ⟨mE, ?_, ?_, ?_, ?_, ?_⟩
  · rintro i h ⟨⟨old, he⟩, hi, ne⟩ b hb
    simp only [List.mem_cons, List.not_mem_nil, or_false] at hb
    rcases hb with rfl | rfl
    · exact ⟨_, he, fun v q => nomatch q⟩
    · exact obj i h hi
  · rintro i h h' ⟨⟨old, he⟩, hi, ne⟩ k
    exact ⟨⟨old, k e mE _ he⟩, keep i h h' hi (k it mI), ne⟩
  · rintro X hP hw hK hc i pins s σ H E I hf ⟨⟨old, he⟩, hi, ne⟩ hg
    obtain ⟨n, fp, S, Q, D, s0, nf, lt, -, fw, rel⟩ := src X hP hw hK hc i pins s σ H I hf ⟨old, he⟩ hi ne (.inl hg)
    refine wpAny_pyNext_enum_itemC D he s0 (lt hg) ne nf fun x h' tk qx ho hS hT hsz hk => ?_
    refine ⟨_, rfl, wpAny_letOwnedTupleGo_enum ho fun h'' he' sb => ?_⟩
    obtain ⟨y, ry, iy⟩ := rel x qx hg
    have hel := Heap.lt_size he
    have hil : it < s.heap.objs.size := by obtain ⟨o, q, _⟩ := obj i _ hi; exact Heap.lt_size q
    have hT2 := (sb.right s.heap.objs.size (Nat.ne_of_gt hel)).trans hT
    have new : ObjOk X.prog X.w (upd H s.heap.objs.size (.tup [.int (k₀ + i), y])) h'' s.heap.objs.size (.tup [.int (k₀ + i), y]) :=
      ⟨(by show 2 ≤ sizeLine; decide), [.int (k₀ + i) tk, x], .cons ⟨tk, rfl⟩ (.cons ry .nil), _, hT2, rfl, 0, rfl⟩
    have I1 := I.turnedNew (t' := tk + 1) (fun b ob hb q => (sb.right b fun z => hb (z ▸ mE)).trans (hk b ob (fun z => hb (z ▸ mE)) (fun z => hb (z ▸ mI)) q)) hf (Nat.le_refl _) new
    refine ⟨.ref s.heap.objs.size, _, I1, rfl, ⟨_, y, rfl, I.hok.fresh (Nat.le_refl _), rfl, iy⟩, ⟨⟨x, ?_⟩, ?_, ne⟩, ?_⟩
    · have e1 : k₀ + ((i + 1 : Nat) : Int) = k₀ + i + 1 := by omega
      rw [e1]; exact he'
    · exact keep (i + 1) h' h'' (fw _ hS) fun o q => (sb.right it (Ne.symm ne)).trans q
    · intro b hb
      have hb' : b < s.heap.objs.size := by
        simp only [List.mem_cons, List.not_mem_nil, or_false] at hb
        rcases hb with rfl | rfl <;> assumption
      rw [upd_ne (Nat.ne_of_lt hb')]
      exact (hf b hb).1
  · rintro X hP hw hK hc i pins s σ H E I hf ⟨⟨old, he⟩, hi, ne⟩ hg
    obtain ⟨n, fp, S, Q, D, s0, nf, -, eq, -, -⟩ := src X hP hw hK hc i pins s σ H I hf ⟨old, he⟩ hi ne (.inr hg)
    obtain ⟨f0, f1, f2, f3, f4, f5⟩ := hf it mI
    have hin := eq hg
    subst hin
    exact wpAny_pyNext_enum_endD D he s0 fun h' eb => ⟨rfl, I.turned (fun b o hb q => eb b o hb q) f0 f1 f3 f4 f5⟩
  · rintro A i s Q E ⟨⟨old, he⟩, _⟩ h
    exact wpAny_pyIter_enum he h
end Mf
namespace Mf
open PySem L2
theorem callType_kw {M : Model} {A : Around} {E : Value → Shared → Prop} {s : Shared} {env : Env} {pos : Pos} {T : String} {e : Expr} {rest : List Expr} {kws : List Keyword} {Q : Value → Shared → Prop}
    (h : wpAny M A (spliced (backTo pos (starEach (e :: rest) env))) (fun vs s₁ => wpAny M A (evalAll ((backToKw pos (keywordEach kws env)).map (·.2)))
      (fun ks s₂ => wpAny M A (call (.type T) vs (((backToKw pos (keywordEach kws env)).filterMap (·.1)).zip ks)) Q E s₂) E s₁) E s)
    (h0 : backTo pos (starEach (e :: rest) env) = (false, eval e env) :: backTo pos (starEach rest env))
    (h1 : (backTo pos (starEach (e :: rest) env)).any (·.1) = false) (h2 : (backToKw pos (keywordEach kws env)).all (fun x => x.1.isSome) = true)
    (h3 : (backToKw pos (keywordEach kws env)).any (fun x => x.1.isNone) = false) :
    wpAny M A (callWith pos (.type T) [] (backTo pos (starEach (e :: rest) env)) (backToKw pos (keywordEach kws env))) Q E s := by
  rw [h0] at h h1 ⊢
  unfold callWith
  refine wpAny_bind (wpAny_holding (evalArgs_kw h2 (wpAny_mono h ?_ fun _ _ q => q)))
  intro vs s1 h
  refine wpAny_mono h ?_ fun _ _ q => q
  intro ks s2 h
  rw [h1, h3]
  refine wpAny_bind (wpAny_standAt ?_)
  refine wpAny_bind (wpAny_pure ?_)
  refine wpAny_bind (wpAny_mono h ?_ fun _ _ q => q)
  intro v s3 q
  exact wpAny_bind (wpAny_holding (wpAny_point (wpAny_pure q)))

/-- enumerate(.., start=k₀) over a list or a tuple -/
def iEnumS (K : W.Frag) (k₀ : Int) (te : TA) : TI := fun σ H R => te σ H fun vs H1 => ∃ (a : Addr) (xs : List V), vs = [.ref a] ∧
  ((SqL K H1 a xs ∧ R (ItN k₀ (fun i H => ∃ xs x, SqL K H a xs ∧ xs[i]? = some x) (fun i H => ∃ xs, SqL K H a xs ∧ xs.length = i) fun i H x => ∀ xs, SqL K H a xs → xs[i]? = some x) H1) ∨
   (SqT K H1 a xs ∧ R (ItN k₀ (fun i H => ∃ xs x, SqT K H a xs ∧ xs[i]? = some x) (fun i H => ∃ xs, SqT K H a xs ∧ xs.length = i) fun i H x => ∀ xs, SqT K H a xs → xs[i]? = some x) H1))
theorem back_get {xs : List V} {us : List Value} (r : Vals xs us) {i : Nat} {u : Value} (h : us[i]? = some u) : ∃ x, RelV x u ∧ xs[i]? = some x := by
  have hi : i < us.length := by
    rcases Nat.lt_or_ge i us.length with q | q
    · exact q
    · rw [List.getElem?_eq_none q] at h; cases h
  rw [← r.length] at hi
  obtain ⟨u', hu, ru⟩ := Vals.get r (List.getElem?_eq_getElem hi)
  rw [h] at hu
  cases hu
  exact ⟨_, ru, List.getElem?_eq_getElem hi⟩
theorem turn_fromL {P : Program} {w : World} {K : W.Frag} {elts : List Expr} {kk : Nat} {tpos : Pos} (k₀ : Int) (e it a : Addr) :
    Turn P w K (.Tuple elts kk tpos) (ItN k₀ (fun i H => ∃ xs x, SqL K H a xs ∧ xs[i]? = some x) (fun i H => ∃ xs, SqL K H a xs ∧ xs.length = i) fun i H x => ∀ xs, SqL K H a xs → xs[i]? = some x) [e, it] e
      fun i h => (∃ old, IsEnum h e it (k₀ + i) old) ∧ Heap.IsListIter h it a i ∧ e ≠ it := by
  refine turn_from k₀ e it ?_ ?_ ?_
  · rintro i h ⟨o, ho, hc, hd⟩
    exact ⟨o, ho, fun v q => by rw [hd] at q; cases q⟩
  · intro i h h' q k
    exact q.at fun o z => k o z
  · rintro X rfl rfl rfl hc i pins s σ H I hf ⟨old, he⟩ hi ne hg
    have key : ∀ xs, SqL X.K H a xs → ∃ (n : Nat) (fp : List Addr) (S : Nat → Heap → Prop) (Q : Nat → Value → Prop), Draws X.prog X.w (Around.in1 X.A) it fp n Q S ∧ S i s.heap ∧ e ∉ fp ∧
        n = xs.length ∧ (∀ h, S (i + 1) h → Heap.IsListIter h it a (i + 1)) ∧ ∀ v, Q i v → ∃ x, RelV x v ∧ xs[i]? = some x := by
      intro xs hq
      obtain ⟨its, rv, p, hz⟩ := I.list hq
      have pl := p.isList
      have n1 : a ≠ it := fun q => by
        obtain ⟨o, ho, hc, _⟩ := pl
        obtain ⟨o', ho', hc', _⟩ := hi
        rw [q, ho'] at ho; cases ho; rw [hc'] at hc; injection hc with hc; exact absurd hc (by decide)
      have n2 : a ≠ e := fun q => by
        obtain ⟨o, ho, hc, _⟩ := pl
        have he' : s.heap.get? e = _ := he
        rw [q, he'] at ho; cases ho; injection hc with hc; exact absurd hc (by decide)
      refine ⟨_, _, _, _, Draws.list (show (Around.in1 X.A).handled = none from I.ok.hd hc) it a n1 its.toArray, ⟨hi, pl⟩, ?_, ?_, fun h q => q.1, ?_⟩
      · intro q
        simp only [List.mem_cons, List.not_mem_nil, or_false] at q
        rcases q with q | q
        · exact ne q
        · exact n2 q.symm
      · rw [List.size_toArray, rv.length]
      · intro v hv
        have hv : its[i]? = some v := by rw [← List.getElem?_toArray]; exact hv
        exact back_get rv hv
    rcases hg with ⟨xs, x, hq, hx⟩ | ⟨xs, hq, hx⟩
    · obtain ⟨n, fp, S, Q, D, s0, nf, hn, fw, rel⟩ := key xs hq
      refine ⟨n, fp, S, Q, D, s0, nf, fun _ => ?_, ?_, fw, fun v qv _ => ?_⟩
      · rw [hn]
        rcases Nat.lt_or_ge i xs.length with q | q
        · exact q
        · rw [List.getElem?_eq_none q] at hx; cases hx
      · rintro ⟨ys, hy, rfl⟩
        rw [hn, I.list_inj hq hy]
      · obtain ⟨x', rx, hx'⟩ := rel v qv
        exact ⟨x', rx, fun ys hy => by rw [I.list_inj hy hq]; exact hx'⟩
    · obtain ⟨n, fp, S, Q, D, s0, nf, hn, fw, rel⟩ := key xs hq
      refine ⟨n, fp, S, Q, D, s0, nf, ?_, fun _ => by rw [hn, hx], fw, fun v qv _ => ?_⟩
      · rintro ⟨ys, y, hy, hyi⟩
        rw [I.list_inj hy hq, List.getElem?_eq_none (by omega)] at hyi; cases hyi
      · obtain ⟨x', rx, hx'⟩ := rel v qv
        exact ⟨x', rx, fun ys hy => by rw [I.list_inj hy hq]; exact hx'⟩
theorem isTuple_of {h : Heap} {a : Addr} {its : Array Value} (p : PyProof.Rows.IsTup h a its) : Heap.IsTuple h a its := p
theorem turn_fromT {P : Program} {w : World} {K : W.Frag} {elts : List Expr} {kk : Nat} {tpos : Pos} (k₀ : Int) (e it a : Addr) :
    Turn P w K (.Tuple elts kk tpos) (ItN k₀ (fun i H => ∃ xs x, SqT K H a xs ∧ xs[i]? = some x) (fun i H => ∃ xs, SqT K H a xs ∧ xs.length = i) fun i H x => ∀ xs, SqT K H a xs → xs[i]? = some x) [e, it] e
      fun i h => (∃ old, IsEnum h e it (k₀ + i) old) ∧ Heap.IsTupleIter h it a i ∧ e ≠ it := by
  refine turn_from k₀ e it ?_ ?_ ?_
  · rintro i h ⟨o, ho, hc, hd⟩
    exact ⟨o, ho, fun v q => by rw [hd] at q; cases q⟩
  · intro i h h' q k
    exact q.at fun o z => k o z
  · rintro X rfl rfl rfl hc i pins s σ H I hf ⟨old, he⟩ hi ne hg
    have key : ∀ xs, SqT X.K H a xs → ∃ (n : Nat) (fp : List Addr) (S : Nat → Heap → Prop) (Q : Nat → Value → Prop), Draws X.prog X.w (Around.in1 X.A) it fp n Q S ∧ S i s.heap ∧ e ∉ fp ∧
        n = xs.length ∧ (∀ h, S (i + 1) h → Heap.IsTupleIter h it a (i + 1)) ∧ ∀ v, Q i v → ∃ x, RelV x v ∧ xs[i]? = some x := by
      intro xs hq
      obtain ⟨its, rv, p, hz⟩ := I.tuple hq
      have pl := isTuple_of p
      have n1 : a ≠ it := fun q => by
        obtain ⟨o, ho, hc, _⟩ := pl
        obtain ⟨o', ho', hc', _⟩ := hi
        rw [q, ho'] at ho; cases ho; rw [hc'] at hc; injection hc with hc; exact absurd hc (by decide)
      have n2 : a ≠ e := fun q => by
        obtain ⟨o, ho, hc, _⟩ := pl
        have he' : s.heap.get? e = _ := he
        rw [q, he'] at ho; cases ho; injection hc with hc; exact absurd hc (by decide)
      refine ⟨_, _, _, _, Draws.tuple (show (Around.in1 X.A).handled = none from I.ok.hd hc) it a n1 its.toArray, ⟨hi, pl⟩, ?_, ?_, fun h q => q.1, ?_⟩
      · intro q
        simp only [List.mem_cons, List.not_mem_nil, or_false] at q
        rcases q with q | q
        · exact ne q
        · exact n2 q.symm
      · rw [List.size_toArray, rv.length]
      · intro v hv
        have hv : its[i]? = some v := by rw [← List.getElem?_toArray]; exact hv
        exact back_get rv hv
    rcases hg with ⟨xs, x, hq, hx⟩ | ⟨xs, hq, hx⟩
    · obtain ⟨n, fp, S, Q, D, s0, nf, hn, fw, rel⟩ := key xs hq
      refine ⟨n, fp, S, Q, D, s0, nf, fun _ => ?_, ?_, fw, fun v qv _ => ?_⟩
      · rw [hn]
        rcases Nat.lt_or_ge i xs.length with q | q
        · exact q
        · rw [List.getElem?_eq_none q] at hx; cases hx
      · rintro ⟨ys, hy, rfl⟩
        rw [hn, I.tuple_inj hq hy]
      · obtain ⟨x', rx, hx'⟩ := rel v qv
        exact ⟨x', rx, fun ys hy => by rw [I.tuple_inj hy hq]; exact hx'⟩
    · obtain ⟨n, fp, S, Q, D, s0, nf, hn, fw, rel⟩ := key xs hq
      refine ⟨n, fp, S, Q, D, s0, nf, ?_, fun _ => by rw [hn, hx], fw, fun v qv _ => ?_⟩
      · rintro ⟨ys, y, hy, hyi⟩
        rw [I.tuple_inj hy hq, List.getElem?_eq_none (by omega)] at hyi; cases hyi
      · obtain ⟨x', rx, hx'⟩ := rel v qv
        exact ⟨x', rx, fun ys hy => by rw [I.tuple_inj hy hq]; exact hx'⟩
theorem pi_enumS {X : Cx} {e : Expr} {ta : TA} {p pos tpos kp cq : Pos} {cp : Nat} {elts : List Expr} {kk : Nat} {k₀ : Int} (hg : Gl X "enumerate") (hm : X.mg "enumerate" = none) (ha : PA X [e] ta)
    (b0 : -2 ^ 63 ≤ k₀) (b1 : k₀ < 2 ^ 63)
    (h0 : backTo pos (starEach [e] X.env) = (false, eval e X.env) :: backTo pos (starEach [] X.env) := by rfl)
    (h1 : (backTo pos (starEach [e] X.env)).any (·.1) = false := by rfl) :
    PI X (.Tuple elts kk tpos) (.Call (.Name "enumerate" p) [e] [⟨some "start", .Constant (.int k₀) cp cq, kp⟩] pos) (iEnumS X.K k₀ ta) := by
  refine ⟨fun pins s σ H R I h => wpAny_Call_Name_kw (ld_blt I hg hm PyProof.Rows.boot_enumerate (callType_kw (thn (ha.run pos pins s σ H _ I h) ?_) h0 h1 rfl rfl))⟩
  rintro us s1 ⟨vs, H1, I1, r1, q1⟩
  have pk : PK X [⟨some "start", .Constant (.int k₀) cp cq, kp⟩] (tCons (tC (.int k₀)) tNil) := pk_cons pe_int pk_nil
  refine thn (pk.run pos pins s1 σ H1 (fun zs H' => zs = [.int k₀] ∧ H' = H1) I1 ⟨rfl, rfl⟩) ?_
  rintro ks s2 ⟨zs, H2, I2, r2, rfl, rfl⟩
  match ks, r2 with
  | [_], .cons ⟨t, ht⟩ .nil =>
    subst ht
    obtain ⟨a, xs, rfl, q1⟩ := q1
    match us, r1 with
    | [_], .cons ra .nil =>
      have ra : _ = Value.ref a := ra
      subst ra
      rcases q1 with ⟨hq, q⟩ | ⟨hq, q⟩
      · obtain ⟨its, rv, p', hz⟩ := I2.list hq
        refine enum_begins_start (begins_list a its.toArray) p'.isList b0 b1 fun h' he ho hsz hk => ?_
        refine wpAny_pyIter_enum he ?_
        have I3 := I2.kept (t' := s2.toks) hk
        refine ⟨_, [s2.heap.objs.size + 1, s2.heap.objs.size], _, _, H2, rfl, I3, turn_fromL k₀ _ _ a, ⟨⟨_, by simpa using he⟩, ⟨_, ho, rfl, rfl⟩, Nat.succ_ne_self _⟩, ?_, q⟩
        intro b hb
        simp only [List.mem_cons, List.not_mem_nil, or_false] at hb
        rcases hb with rfl | rfl
        · exact I2.fpOk (Nat.le_succ _) (I2.hok.fresh (Nat.le_succ _))
        · exact I2.fpOk (Nat.le_refl _) (I2.hok.fresh (Nat.le_refl _))
      · obtain ⟨its, rv, p', hz⟩ := I2.tuple hq
        refine enum_begins_start (begins_tuple a its.toArray) (isTuple_of p') b0 b1 fun h' he ho hsz hk => ?_
        refine wpAny_pyIter_enum he ?_
        have I3 := I2.kept (t' := s2.toks) hk
        refine ⟨_, [s2.heap.objs.size + 1, s2.heap.objs.size], _, _, H2, rfl, I3, turn_fromT k₀ _ _ a, ⟨⟨_, by simpa using he⟩, ⟨_, ho, rfl, rfl⟩, Nat.succ_ne_self _⟩, ?_, q⟩
        intro b hb
        simp only [List.mem_cons, List.not_mem_nil, or_false] at hb
        rcases hb with rfl | rfl
        · exact I2.fpOk (Nat.le_succ _) (I2.hok.fresh (Nat.le_succ _))
        · exact I2.fpOk (Nat.le_refl _) (I2.hok.fresh (Nat.le_refl _))
theorem walk_enumSL {K : W.Frag} {k₀ : Int} {a : Addr} {xs : List V} :
    Walk (ItN k₀ (fun i H => ∃ xs x, SqL K H a xs ∧ xs[i]? = some x) (fun i H => ∃ xs, SqL K H a xs ∧ xs.length = i) fun i H x => ∀ xs, SqL K H a xs → xs[i]? = some x) xs.length (fun H => SqL K H a xs)
      (YPair (fun i => some (.int (k₀ + i))) fun i => xs[i]?) where
  goes := fun i H hi h => ⟨xs, xs[i], h, List.getElem?_eq_getElem hi⟩
  stops := fun H h => ⟨xs, h, rfl⟩
  yields := by
    rintro i H x H' hi h ⟨T, y, rfl, hT, rfl, hy⟩
    exact ⟨T, _, y, rfl, hT, rfl, rfl, hy xs h⟩
theorem walk_enumST {K : W.Frag} {k₀ : Int} {a : Addr} {xs : List V} :
    Walk (ItN k₀ (fun i H => ∃ xs x, SqT K H a xs ∧ xs[i]? = some x) (fun i H => ∃ xs, SqT K H a xs ∧ xs.length = i) fun i H x => ∀ xs, SqT K H a xs → xs[i]? = some x) xs.length (fun H => SqT K H a xs)
      (YPair (fun i => some (.int (k₀ + i))) fun i => xs[i]?) where
  goes := fun i H hi h => ⟨xs, xs[i], h, List.getElem?_eq_getElem hi⟩
  stops := fun H h => ⟨xs, h, rfl⟩
  yields := by
    rintro i H x H' hi h ⟨T, y, rfl, hT, rfl, hy⟩
    exact ⟨T, _, y, rfl, hT, rfl, rfl, hy xs h⟩
end Mf
namespace Mf
open PySem L2
theorem next_val {prog : Program} {w : World} {A : Around} {E : Value → Shared → Prop} {s : Shared} {it d : Addr} {i ep : Nat} {es : Array DictEntry} {Q : Value → Shared → Prop}
    (hi : Heap.IsValIter s.heap it d i es.size ep) (hd : Heap.DictRaw s.heap d es ep) (hlt : i < es.size)
    (h : ∀ h' : Heap, Heap.IsValIter h' it d (i + 1) es.size ep → Heap.SameBut it s.heap h' → Q es[i].val { s with heap := h' }) :
    wpAny (model prog w) A (Builtin.SmallTypes.nextOf (.ref it)) Q E s := by
  unfold Builtin.SmallTypes.nextOf
  refine wpAny_bind (wpAny_callSpecial?_slot hi.typeIs F.slot_dict_valueiterator_next ?_)
  refine wpAny_call_entry F.slot_dict_valueiterator_next hi.typeIs F.entry_dict_valueiterator_next ?_ (F.args_dict_valueiterator_next_1 _)
  unfold Builtin.«dict_valueiterator.__next__»
  have ty := hi.typeIs
  obtain ⟨o, ho, hc, hdat⟩ := hi
  obtain ⟨od, hod, -, hodd⟩ := hd
  refine wpAny_bind (wpAny_of_eq (a := .ref it) rfl ?_)
  refine wpAny_bind ?_
  refine wpAny_bind (wpAny_bind (wpAny_typeNameOfWhole_valiter ty (wpAny_pure ?_)))
  refine wpAny_bind (wpAny_fieldsOf ho hdat ?_)
  have ow : (if Builtin.Dict_items.ownsTuple "dict_valueiterator" = true then 2 else 0) = 0 := by decide +kernel
  rw [ow]
  refine wpAny_ite_false (by rfl) ?_
  refine wpAny_bind (wpAny_of_eq (a := d) rfl ?_)
  refine wpAny_bind (wpAny_dictEntries hod hodd ?_)
  refine wpAny_ite_false (by simp) ?_
  refine wpAny_bind (wpAny_of_eq (a := d) rfl ?_)
  refine wpAny_bind (wpAny_dictEpoch hod hodd ?_)
  refine wpAny_ite_false (by simp) ?_
  refine wpAny_pure ?_
  have e2 : (if ((i : Nat) : Int) < 0 then none else es[((i : Nat) : Int).toNat]?) = some es[i] := by
    rw [if_neg (by omega)]
    show es[i]? = _
    rw [Array.getElem?_eq_getElem hlt]
  dsimp only
  rw [e2]
  dsimp only
  refine wpAny_bind (wpAny_bind (wpAny_typeNameOfWhole_valiter ty (wpAny_pure ?_)))
  refine wpAny_bind (wpAny_isOneOf_valiter ty ?_)
  rw [ow]
  refine wpAny_bind (wpAny_setField ho hdat (by show 1 < 4; decide) ?_)
  rw [if_neg (by decide +kernel)]
  have sb := Heap.SameBut.update s.heap it (Obj.mapFields fun x => x.setIfInBounds (0 + 1) (rawInt ((i : Int) + 1)))
  have hn : Heap.IsValIter (s.heap.update it (Obj.mapFields fun x => x.setIfInBounds (0 + 1) (rawInt ((i : Int) + 1)))) it d (i + 1) es.size ep := by
    have dm := Obj.data_mapFields hdat fun x => x.setIfInBounds (0 + 1) (rawInt ((i : Int) + 1))
    refine ⟨_, Heap.get?_update_self _ ho (Obj.isFreed_of_fields dm), ?_, ?_⟩
    · rw [Obj.cls_mapFields]; exact hc
    · rw [dm]
      simp [rawInt]
  generalize s.heap.update it (Obj.mapFields fun x => x.setIfInBounds (0 + 1) (rawInt ((i : Int) + 1))) = h2 at sb hn ⊢
  have ty2 : Shared.TypeIs { s with heap := h2 } (.ref it) "dict_valueiterator" := hn.typeIs
  refine wpAny_bind (wpAny_holding (wpAny_bind (wpAny_isOneOf_valiter ty2 ?_)))
  refine wpAny_ite_false (by decide +kernel) ?_
  refine wpAny_bind (wpAny_isOneOf_valiter ty2 ?_)
  refine wpAny_ite_true (by decide +kernel) ?_
  refine wpAny_pure ?_
  refine wpAny_pure ⟨_, rfl, ?_⟩
  exact wpAny_pure (h h2 hn sb)
theorem next_val_end {prog : Program} {w : World} {A : Around} {E : Value → Shared → Prop} {s : Shared} {it d : Addr} {ep : Nat} {es : Array DictEntry} {Q : Value → Shared → Prop}
    (hh : A.handled = none) (hi : Heap.IsValIter s.heap it d es.size es.size ep) (hd : Heap.DictRaw s.heap d es ep)
    (h : ∀ (h' : Heap) (e : Addr), Heap.ExtBut it s.heap h' → (∃ o, h'.get? e = some o ∧ o.cls = .type "StopIteration") → E (.ref e) { s with heap := h' }) :
    wpAny (model prog w) A (Builtin.SmallTypes.nextOf (.ref it)) Q E s := by
  unfold Builtin.SmallTypes.nextOf
  refine wpAny_bind (wpAny_callSpecial?_slot hi.typeIs F.slot_dict_valueiterator_next ?_)
  refine wpAny_call_entry F.slot_dict_valueiterator_next hi.typeIs F.entry_dict_valueiterator_next ?_ (F.args_dict_valueiterator_next_1 _)
  unfold Builtin.«dict_valueiterator.__next__»
  have ty := hi.typeIs
  obtain ⟨o, ho, hc, hdat⟩ := hi
  obtain ⟨od, hod, -, hodd⟩ := hd
  refine wpAny_bind (wpAny_of_eq (a := .ref it) rfl ?_)
  refine wpAny_bind ?_
  refine wpAny_bind (wpAny_bind (wpAny_typeNameOfWhole_valiter ty (wpAny_pure ?_)))
  refine wpAny_bind (wpAny_fieldsOf ho hdat ?_)
  have ow : (if Builtin.Dict_items.ownsTuple "dict_valueiterator" = true then 2 else 0) = 0 := by decide +kernel
  rw [ow]
  refine wpAny_ite_false (by rfl) ?_
  refine wpAny_bind (wpAny_of_eq (a := d) rfl ?_)
  refine wpAny_bind (wpAny_dictEntries hod hodd ?_)
  refine wpAny_ite_false (by simp) ?_
  refine wpAny_bind (wpAny_of_eq (a := d) rfl ?_)
  refine wpAny_bind (wpAny_dictEpoch hod hodd ?_)
  refine wpAny_ite_false (by simp) ?_
  refine wpAny_pure ?_
  have e2 : (if ((es.size : Nat) : Int) < 0 then none else es[((es.size : Nat) : Int).toNat]?) = none := by
    rw [if_neg (by omega)]
    show es[es.size]? = _
    exact Array.getElem?_eq_none (Nat.le_refl _)
  dsimp only
  rw [e2]
  dsimp only
  refine wpAny_bind (wpAny_bind (wpAny_typeNameOfWhole_valiter ty (wpAny_pure ?_)))
  rw [ow]
  refine wpAny_bind (wpAny_setField ho hdat (by show 0 < 4; decide) ?_)
  have sb := Heap.SameBut.update s.heap it (Obj.mapFields fun x => x.setIfInBounds 0 Value.none)
  generalize s.heap.update it (Obj.mapFields fun x => x.setIfInBounds 0 Value.none) = h2 at sb ⊢
  unfold newExc newTuple
  refine wpAny_bind (wpAny_bind (wpAny_newObj_type ?_ (by show 0 ≤ sizeLine; decide)))
  refine wpAny_bind (wpAny_of_eq (a := .none) rfl ?_)
  refine wpAny_newObj_type ?_ (sizeOk_excFields _ _ _ _ _ _ _ _)
  refine wpAny_raiseNew_none (show (Around.in1 A).handled = none from hh) ?_
  exact h _ _ ((sb.extBut.push _).push _) ⟨_, Heap.get?_push_size _ rfl, rfl⟩
theorem draws_val {prog : Program} {w : World} {A : Around} (hh : A.handled = none) (it d : Addr) (ne : d ≠ it) (es : Array DictEntry) (ep : Nat) :
    Draws prog w A it [it, d] es.size (fun i v => ∃ e, es[i]? = some e ∧ v = e.val) fun i h => Heap.IsValIter h it d i es.size ep ∧ Heap.DictRaw h d es ep where
  live := fun i h q => let ⟨o, ho, _⟩ := q.1; ⟨o, ho⟩
  frame := fun i h h' q k => ⟨q.1.at fun o z => k it (by simp) o z, let ⟨o, ho, r⟩ := q.2; ⟨o, k d (by simp) o ho, r⟩⟩
  item := fun i s Q E hi q f => next_val q.1 q.2 hi fun h' x sb => f _ h' s.toks ⟨_, Array.getElem?_eq_getElem hi, rfl⟩
    ⟨x, let ⟨o, ho, r⟩ := q.2; ⟨o, (sb.right d ne).trans ho, r⟩⟩ sb
  done := fun s Q E q f => next_val_end hh q.1 q.2 fun h' e a b => f h' e a b
end Mf
namespace Mf
open PySem L2
abbrev ItV (k₀ : Int) (d : Addr) (o : Obj) (kvs : List (Key × V)) : It :=
  ItN k₀ (fun i H => H d = some (.frz o (.dK kvs)) ∧ i < kvs.length) (fun i H => H d = some (.frz o (.dK kvs)) ∧ kvs.length = i) fun i _ x => ∃ k, kvs[i]? = some (k, x)
theorem pairs_val {prog : Program} {w : World} {knd : KeyKind prog w Key} {es : List DictEntry} {vs : List (Key × Value)} (h : Pairs knd es vs) :
    es.length = vs.length ∧ ∀ (i : Nat) (e : DictEntry), es[i]? = some e → ∃ p, vs[i]? = some p ∧ e.val = p.2 := by
  induction h with
  | nil => exact ⟨rfl, fun i e h => by simp at h⟩
  | cons a b r ih =>
    refine ⟨by rw [List.length_cons, List.length_cons, ih.1], fun i e h => ?_⟩
    match i, h with
    | 0, h =>
      cases h
      exact ⟨_, rfl, b⟩
    | i + 1, h => exact ih.2 i e h
theorem kv_back {kvs : List (Key × V)} {vs : List (Key × Value)} (r : KV kvs vs) {i : Nat} {p : Key × Value} (h : vs[i]? = some p) : ∃ x, RelV x p.2 ∧ ∃ k, kvs[i]? = some (k, x) := by
  have l := Paired.length r
  have hi : i < kvs.length := by
    rcases Nat.lt_or_ge i kvs.length with q | q
    · exact q
    · rw [List.getElem?_eq_none (by omega)] at h; cases h
  obtain ⟨u, hu, ru⟩ := kv_get r (k := kvs[i].1) (v := kvs[i].2) (List.getElem?_eq_getElem hi)
  rw [h] at hu
  cases hu
  exact ⟨_, ru, _, List.getElem?_eq_getElem hi⟩
theorem turn_fromV {P : Program} {w : World} {K : W.Frag} {elts : List Expr} {kk : Nat} {tpos : Pos} (k₀ : Int) (e it d : Addr) {o : Obj} {es : Array DictEntry} {ep : Nat} {kvs : List (Key × V)} (hod : o.data = .dict es ep) :
    Turn P w K (.Tuple elts kk tpos) (ItV k₀ d o kvs) [e, it] e
      fun i h => (∃ old, IsEnum h e it (k₀ + i) old) ∧ Heap.IsValIter h it d i kvs.length ep ∧ e ≠ it := by
  refine turn_from k₀ e it ?_ ?_ ?_
  · rintro i h ⟨o, ho, hc, hd⟩
    exact ⟨o, ho, fun v q => by rw [hd] at q; cases q⟩
  · intro i h h' q k
    exact q.at fun o z => k o z
  · rintro X rfl rfl rfl hc i pins s σ H I hf ⟨old, he⟩ hi ne hg
    have hH : H d = some (.frz o (.dK kvs)) := hg.elim (·.1) (·.1)
    obtain ⟨hs, hgd, hx, es', ep', vs, hdt, hsz, kv, hm⟩ := I.frzK hH
    obtain ⟨rfl, rfl⟩ := dict_ep hod hdt
    obtain ⟨o2, es2, g1, g2, g3, g4, g5, g6⟩ := hm
    rw [hgd] at g1
    cases g1
    obtain ⟨q1, _⟩ := dict_ep hdt g3
    subst q1
    have pv := pairs_val g5
    have n1 : d ≠ it := fun q => by
      obtain ⟨o', ho', hc', hd'⟩ := hi
      rw [← q, hgd] at ho'; cases ho'
      rw [hdt] at hd'; cases hd'
    have n2 : d ≠ e := fun q => by
      have he' : s.heap.get? e = _ := he
      rw [← q, hgd] at he'; cases he'
      cases hdt
    rw [← hsz] at hi
    refine ⟨_, _, _, _, draws_val (show (Around.in1 X.A).handled = none from I.ok.hd hc) it d n1 es2 ep', ⟨hi, ⟨_, hgd, hx, hdt⟩⟩, ?_, ?_, ?_, fun h q => by rw [hsz] at q; exact q.1, ?_⟩
    · intro q
      simp only [List.mem_cons, List.not_mem_nil, or_false] at q
      rcases q with q | q
      · exact ne q
      · exact n2 q.symm
    · rintro ⟨_, q⟩; rw [hsz]; exact q
    · rintro ⟨_, q⟩; rw [hsz]; exact q.symm
    · rintro v ⟨en, hen, rfl⟩ _
      obtain ⟨p, hp, ev⟩ := pv.2 i en (by rw [Array.getElem?_toList]; exact hen)
      rw [ev]
      exact kv_back kv hp
theorem begins_values (v d : Addr) (es : Array DictEntry) (ep : Nat) :
    Begins (.ref v) ⟨.type "dict_valueiterator", none, .fields #[.ref d, .int 0 0, .int (es.size : Nat) 0, .int (ep : Nat) 0], #[]⟩ (fun h => Heap.IsValuesView h v d ∧ Heap.DictRaw h d es ep) where
  iter := fun prog w A E s Q hq q => wpAny_pyIter_values_raw hq.1 hq.2 q
  keeps := by
    rintro h h' ⟨⟨o, a, b, c⟩, o2, g1, g2⟩ k
    exact ⟨⟨o, k _ _ a, b, c⟩, o2, k _ _ g1, g2⟩
  free := rfl
def iEnumV (k₀ : Int) (td : TE) : TI := fun σ H R => td σ H fun x H1 => ∃ d o kvs, x = .ref d ∧ H1 d = some (.frz o (.dK kvs)) ∧ R (ItV k₀ d o kvs) H1
theorem pi_enumV {X : Cx} {e : Expr} {td : TE} {p pos cpos apos tpos kp cq : Pos} {cp : Nat} {elts : List Expr} {kk : Nat} {k₀ : Int} (hg : Gl X "enumerate") (hm : X.mg "enumerate" = none) (he : PE X e td)
    (b0 : -2 ^ 63 ≤ k₀) (b1 : k₀ < 2 ^ 63)
    (hbase : attributeBase e "values" X.env (eval e X.env) = eval e X.env := by rfl) (hline : (apos.endLine == cpos.line) = true := by rfl) :
    PI X (.Tuple elts kk tpos) (.Call (.Name "enumerate" p) [.Call (.Attribute e "values" apos) [] [] cpos] [⟨some "start", .Constant (.int k₀) cp cq, kp⟩] pos) (iEnumV k₀ td) := by
  refine ⟨fun pins s σ H R I h => wpAny_Call_Name_kw (ld_blt I hg hm PyProof.Rows.boot_enumerate (callType_kw ?_ rfl rfl rfl rfl))⟩
  refine Calls.spliced_cons ?_
  refine wpAny_Call_method hbase rfl hline F.plainAttrs_dict F.slot_dict_values F.type_dict_values (thn (he.run pins s σ H _ I h) ?_)
  rintro u s1 ⟨x, H1, I1, rx, d, o, kvs, rfl, hd, q⟩
  have ex : u = .ref d := rx
  subst ex
  obtain ⟨hs, hgd, hx, es, ep, vs, hdt, hsz, kv, hm⟩ := I1.frzK hd
  have hl := Paired.length kv
  refine ⟨hm.dictOf.typeIs, hm.dictOf.mapOf.noDict, ?_⟩
  refine method_meetsIn F.slot_dict_values F.entry_dict_values rfl (evalArgs_none ?_)
  refine ⟨rfl, hm.dictOf.typeIs, F.args_dict_values_1 _, _, meets_dict_values (mixKind X.prog X.w) d hs, ⟨vs, hm.dictOf⟩, ?_⟩
  show wpAny (model X.prog X.w) X.A (spliced []) _ _ _
  refine Calls.spliced_nil ?_
  have I2 := I1.kept (t' := s1.toks) fun b ob q => Heap.get?_push_of_some ⟨.type "dict_values", none, .fields #[.ref d], #[]⟩ q
  refine wpAny_evalAll_cons (wpAny_bind (wpAny_Constant_int (wpAny_bind (wpAny_standAt (wpAny_pure (wpAny_evalAll_nil ?_))))))
  have vw : Heap.IsValuesView (s1.heap.push ⟨.type "dict_values", none, .fields #[.ref d], #[]⟩) s1.heap.objs.size d := ⟨_, Heap.get?_push_size _ rfl, rfl, rfl⟩
  refine enum_begins_start (begins_values s1.heap.objs.size d es ep) ⟨vw, ⟨_, Heap.get?_push_of_some _ hgd, hx, hdt⟩⟩ b0 b1 fun h' he ho hsz2 hk => ?_
  refine wpAny_pyIter_enum he ?_
  have I3 := I2.kept (t' := s1.toks + 1) hk
  refine ⟨_, [(s1.heap.push ⟨.type "dict_values", none, .fields #[.ref d], #[]⟩).objs.size + 1, (s1.heap.push ⟨.type "dict_values", none, .fields #[.ref d], #[]⟩).objs.size], _, _, H1, rfl, I3, turn_fromV k₀ _ _ d hdt, ⟨⟨_, by simpa using he⟩, ⟨_, ho, rfl, by rw [← hsz]; rfl⟩, Nat.succ_ne_self _⟩, ?_, q⟩
  intro b hb
  simp only [List.mem_cons, List.not_mem_nil, or_false] at hb
  rcases hb with rfl | rfl
  · exact I2.fpOk (Nat.le_succ _) (I2.hok.fresh (Nat.le_succ _))
  · exact I2.fpOk (Nat.le_refl _) (I2.hok.fresh (Nat.le_refl _))
theorem walk_enumV {k₀ : Int} {d : Addr} {o : Obj} {kvs : List (Key × V)} :
    Walk (ItV k₀ d o kvs) kvs.length (fun H => H d = some (.frz o (.dK kvs))) (fun i H v H' => ∃ T x k, v = .ref T ∧ H T = none ∧ H' = upd H T (.tup [.int (k₀ + i), x]) ∧ kvs[i]? = some (k, x)) where
  goes := fun i H hi h => ⟨h, hi⟩
  stops := fun H h => ⟨h, rfl⟩
  yields := by
    rintro i H x H' hi h ⟨T, y, rfl, hT, rfl, k, hy⟩
    exact ⟨T, y, k, rfl, hT, rfl, hy⟩
end Mf
/-! Any walk; data of steps and procedures compared; lists of a heap that keep their kind. -/
namespace Mf
open PySem L2
theorem it_any {J : It} {n : Nat} {G : Hp → Prop} {Y : Nat → Hp → V → Hp → Prop} (w : Walk J n G Y) {B : (Hp → Prop) → V → Hp → Prop} {Qd : Hp → Prop} {H1 : Hp} (Pv : Nat → Hp → Prop) (h0 : Pv 0 H1) (hG : ∀ i H, i ≤ n → Pv i H → G H)
    (hs : ∀ i x H H', i < n → Pv i H → Y i H x H' → B (Pv (i + 1)) x H') (hd : ∀ H, Pv n H → Qd H) :
    ∃ W : Nat → Nat → Hp → Prop, (∃ m, W 0 m H1) ∧ ∀ i m H, W i m H → (J.stop i H ∧ Qd H) ∨ (J.go i H ∧ ∃ Nx : Hp → Prop, (∀ H', Nx H' → ∃ m', m' < m ∧ W (i + 1) m' H') ∧ ∀ x H', J.yld i H x H' → B Nx x H') := by
  refine ⟨fun i m H => m = n - i ∧ i ≤ n ∧ Pv i H, ⟨n, by simp, Nat.zero_le _, h0⟩, ?_⟩
  rintro i m H ⟨rfl, hi, p⟩
  have q := hG i H hi p
  by_cases hlt : i < n
  · exact .inr ⟨w.goes i H hlt q, Pv (i + 1), fun H' p' => ⟨n - (i + 1), by omega, rfl, hlt, p'⟩, fun x H' y => hs i x H H' hlt p (w.yields i H x H' hlt q y)⟩
  · have e : i = n := by omega
    subst e
    exact .inl ⟨w.stops H q, hd H p⟩
section
variable (K : PySem.W.Frag) {X : Cx}
theorem piL {tg l : Expr} {tl : TE} (hl : PE X l tl) (h : X.K = K := by rfl) : PI X tg l (iList K tl) := h ▸ pi_list hl
theorem piT {tg l : Expr} {tl : TE} (hl : PE X l tl) (h : X.K = K := by rfl) : PI X tg l (iTup K tl) := h ▸ pi_tup hl
end

/-! ### data -/
theorem eqvMap {α : Type} [DecidableEq α] {f : α → PyData} (h : ∀ x y, PyData.eqv (f x) (f y) = decide (x = y)) : ∀ xs ys : List α, PyData.eqvAll (xs.map f) (ys.map f) = decide (xs = ys)
  | [], [] => rfl
  | [], _ :: _ => rfl
  | _ :: _, [] => rfl
  | x :: xs, y :: ys => by
    show (PyData.eqv (f x) (f y) && PyData.eqvAll (xs.map f) (ys.map f)) = _
    rw [h, eqvMap h xs ys]
    by_cases e : x = y <;> simp [e]
/-- data that can be laid, of depth at most k -/
def Sh (k : Nat) (d : PyData) : Prop := d.canLay0 = true ∧ PyData.depth d ≤ k
theorem Sh.up {k m : Nat} {d : PyData} (h : Sh k d) (l : k ≤ m) : Sh m d := ⟨h.1, Nat.le_trans h.2 l⟩
theorem Sh.all {k : Nat} : ∀ {ds : List PyData}, (∀ d ∈ ds, Sh k d) → PyData.canLayAll0 ds = true ∧ PyData.depthAll ds ≤ k
  | [], _ => ⟨rfl, Nat.zero_le _⟩
  | d :: ds, h => by
    obtain ⟨a, b⟩ := Sh.all (ds := ds) fun y hy => h y (List.mem_cons_of_mem _ hy)
    obtain ⟨a', b'⟩ := h d List.mem_cons_self
    refine ⟨?_, ?_⟩
    · show (d.canLay0 && PyData.canLayAll0 ds) = true
      rw [a, a']; rfl
    · show max (PyData.depth d) (PyData.depthAll ds) ≤ k
      omega
theorem Sh.list {k : Nat} {ds : List PyData} (h : ∀ d ∈ ds, Sh k d) : Sh (k + 1) (.list ds) := ⟨(Sh.all h).1, Nat.succ_le_succ (Sh.all h).2⟩
theorem Sh.tuple {k : Nat} {ds : List PyData} (h : ∀ d ∈ ds, Sh k d) : Sh (k + 1) (.tuple ds) := ⟨(Sh.all h).1, Nat.succ_le_succ (Sh.all h).2⟩
theorem Sh.listM {α : Type} {k : Nat} {xs : List α} {f : α → PyData} (h : ∀ x ∈ xs, Sh k (f x)) : Sh (k + 1) (.list (xs.map f)) := .list fun d hd => by obtain ⟨x, hx, rfl⟩ := List.mem_map.mp hd; exact h x hx
theorem Sh.tupleM {α : Type} {k : Nat} {xs : List α} {f : α → PyData} (h : ∀ x ∈ xs, Sh k (f x)) : Sh (k + 1) (.tuple (xs.map f)) := .tuple fun d hd => by obtain ⟨x, hx, rfl⟩ := List.mem_map.mp hd; exact h x hx
theorem Sh.str {z : Str} (h : PyData.strOk z = true) : Sh 0 (.str z) := ⟨h, Nat.le_refl _⟩
theorem Sh.int (i : Int) : Sh 0 (.int i) := ⟨rfl, Nat.le_refl _⟩
theorem Sh.sh {k : Nat} {d : PyData} (h : Sh k d) (l : k ≤ 64 := by decide) : SeqAt.shaped d = true := Bool.and_eq_true_iff.mpr ⟨h.1, decide_eq_true (Nat.le_trans h.2 l)⟩
theorem dpMap {K : PySem.W.Frag} {H : Hp} {α : Type} {g : α → V} {f : α → PyData} : ∀ {xs : List α}, (∀ x ∈ xs, Dp K H (g x) (f x)) → DpAll K H (xs.map g) (xs.map f)
  | [], _ => .nil
  | x :: xs, h => .cons (h x List.mem_cons_self) (dpMap fun y hy => h y (List.mem_cons_of_mem _ hy))
theorem dpPair {K : PySem.W.Frag} {H : Hp} {α β : Type} {R : α → β → Prop} {g : α → V} {f : β → PyData} {as : List α} {bs : List β} (p : Paired R as bs) (h : ∀ a b, R a b → Dp K H (g a) (f b)) : DpAll K H (as.map g) (bs.map f) := by
  induction p with
  | nil => exact .nil
  | cons a _ ih => exact .cons (h _ _ a) ih
/-! ### steps and procedures as data -/
abbrev Step := Str × Str
abbrev Pc := Str × List Step
def stD (s : Step) : PyData := .tuple [.str s.1, .str s.2]
def bdL (ss : List Step) : PyData := .list (ss.map stD)
def bdT (ss : List Step) : PyData := .tuple (ss.map stD)
def pcL (x : Pc) : PyData := .tuple [.str x.1, bdL x.2]
theorem eqv_str (x y : Str) : PyData.eqv (.str x) (.str y) = decide (x = y) := by
  show (x == y) = _
  by_cases e : x = y <;> simp [e]
theorem eqv_st (x y : Step) : PyData.eqv (stD x) (stD y) = decide (x = y) := by
  obtain ⟨a, b⟩ := x
  obtain ⟨c, d⟩ := y
  show (PyData.eqv (.str a) (.str c) && (PyData.eqv (.str b) (.str d) && true)) = _
  rw [eqv_str, eqv_str]
  by_cases e : a = c <;> by_cases f : b = d <;> simp [e, f]
theorem eqv_bdL (x y : List Step) : PyData.eqv (bdL x) (bdL y) = decide (x = y) := eqvMap eqv_st x y
theorem eqv_bdT (x y : List Step) : PyData.eqv (bdT x) (bdT y) = decide (x = y) := eqvMap eqv_st x y
theorem eqv_pcL (x y : Pc) : PyData.eqv (pcL x) (pcL y) = decide (x = y) := by
  obtain ⟨a, b⟩ := x
  obtain ⟨c, d⟩ := y
  show (PyData.eqv (.str a) (.str c) && (PyData.eqv (bdL b) (bdL d) && true)) = _
  rw [eqv_str, eqv_bdL]
  by_cases e : a = c <;> by_cases f : b = d <;> simp [e, f]
def StOk (s : Step) : Prop := PyData.strOk s.1 = true ∧ PyData.strOk s.2 = true
theorem sh_st {s : Step} (h : StOk s) : Sh 1 (stD s) := .tuple fun d hd => by
  simp only [List.mem_cons, List.not_mem_nil, or_false] at hd
  rcases hd with rfl | rfl
  · exact .str h.1
  · exact .str h.2
theorem sh_bdL {ss : List Step} (h : ∀ s ∈ ss, StOk s) : Sh 2 (bdL ss) := .listM fun s hs => sh_st (h s hs)
theorem sh_bdT {ss : List Step} (h : ∀ s ∈ ss, StOk s) : Sh 2 (bdT ss) := .tupleM fun s hs => sh_st (h s hs)
theorem sh_pcL {x : Pc} (h : PyData.strOk x.1 = true) (h2 : ∀ s ∈ x.2, StOk s) : Sh 3 (pcL x) := .tuple fun d hd => by
  simp only [List.mem_cons, List.not_mem_nil, or_false] at hd
  rcases hd with rfl | rfl
  · exact (Sh.str h).up (by decide)
  · exact sh_bdL h2

/-! ### all but lists stays -/
def NoL (o : HO) : Prop := ∀ xs, o ≠ .lst xs
def SameN (H H' : Hp) : Prop := ∀ b o, NoL o → H b = some o → H' b = some o
theorem SameN.refl {H : Hp} : SameN H H := fun _ _ _ h => h
theorem SameN.of {H H' : Hp} (x : Same H H') : SameN H H' := fun b o _ h => x b o h
theorem SameN.trans {H H1 H2 : Hp} (x : SameN H H1) (y : SameN H1 H2) : SameN H H2 := fun b o n h => y b o n (x b o n h)
theorem SameN.put {H H1 : Hp} {p : Addr} {xs : List V} {o : HO} (x : SameN H H1) (h : H1 p = some (.lst xs)) : SameN H (upd H1 p o) := fun b u n e => by
  have q := x b u n e
  rw [upd_ne (fun z => by rw [z, h] at q; exact n xs (Option.some.inj q).symm)]
  exact q
theorem noL_tup {xs : List V} : NoL (.tup xs) := fun _ h => nomatch h
theorem noL_dK {k : List (Key × V)} : NoL (.dK k) := fun _ h => nomatch h
theorem noL_ins {C d : Addr} {f : List (Str × V)} : NoL (.ins C d f) := fun _ h => nomatch h
theorem SameN.tup {K : PySem.W.Frag} {t : Addr} {H H' : Hp} {xs : List V} (x : SameN H H') (h : SqT K H t xs) : SqT K H' t xs := by
  rcases h with (h | ⟨o, h⟩) | h
  · exact .inl (.inl (x _ _ noL_tup h))
  · exact .inl (.inr ⟨o, x _ _ (fun _ h => nomatch h) h⟩)
  · exact .inr h
/-- all but a, and but lists, stays -/
theorem refs_ne {H : Hp} {a x : Addr} {n : Nat} {ts : List Addr} (S : Src H a n) (h : H x = some (.lst (ts.map V.ref))) : x ≠ a := fun e => by
  obtain ⟨g, s, c, q, _⟩ := S
  rw [e, q] at h
  cases ts with
  | nil => simp at h
  | cons t ts => simp at h
theorem strs_ne {H : Hp} {a x : Addr} {n : Nat} {zs : List Str} (S : Src H a n) (h : H x = some (.lst (zs.map V.str))) : x ≠ a := fun e => by
  obtain ⟨g, s, c, q, _⟩ := S
  rw [e, q] at h
  cases zs with
  | nil => simp at h
  | cons t ts => simp at h
theorem noL_ne {H : Hp} {a x : Addr} {n : Nat} {o : HO} (S : Src H a n) (k : NoL o) (h : H x = some o) : x ≠ a := fun e => by
  obtain ⟨g, s, c, q, _⟩ := S
  rw [e, q] at h
  exact k _ (Option.some.inj h).symm
theorem Kp.noL {H H' : Hp} {a : Addr} {n : Nat} (x : Kp a H H') (S : Src H a n) : SameN H H' := fun b o k h => x b o (noL_ne S k h) h
end Mf
/-! tuple(d) of a dict; == of dicts whose values are data. -/
namespace Mf
open PySem PySem.Spec PyProof.Rows L2

section
variable {prog : Program} {w : World} {A : Around} {E : Value → Shared → Prop} {s : Shared} {T : String} {r d : Addr} {n : Nat} {P : Nat → Value → Prop} {OK : Heap → Prop}
theorem collect_src {Q : List Value → Shared → Prop} (K : PySem.W.KdlSrc prog w T r d n P OK) (hh : A.handled = none) (hok : OK s.heap) (hn : n ≤ sizeLine)
    (hQ : ∀ (h' : Heap) (tk : Nat) (acc : Array Value), (∀ b o, s.heap.get? b = some o → h'.get? b = some o) → ItemsOf P acc n → Q acc.toList { s with heap := h', toks := tk }) :
    wpAny (model prog w) A (collect (.ref r)) Q E s := by
  unfold collect
  refine wpAny_bind (wpAny_runValue (codeAny_builtin F.entry_proto_collect ?_))
  rw [Around.under_plainId F.plain_proto_collect _]
  show wpAny _ A.in1 (newList [] >>= fun l => again (.builtin "list.__iadd__" ⟨[l, .ref r], []⟩)) _ _ s
  refine wpAny_bind (wpAny_newObj_type ?_)
  refine wpAny_pure ⟨plainId_quiet F.plain_list_iadd _, codeAny_builtin F.entry_list_iadd ?_⟩
  rw [Around.under_plainId F.plain_list_iadd _]
  show wpAny _ A.in1 (Builtin.List.listExtendWith (.ref s.heap.objs.size) (.ref r) (.ref s.heap.objs.size)) _ _ _
  have hS : (s.heap.push { cls := .type "list", data := .seq ([] : List Value).toArray }).get? s.heap.objs.size = some { cls := .type "list", data := .seq #[] 0 } := Heap.get?_push_size _ rfl
  have hlt := K.there _ hok
  refine wpAny_mono (PySem.W.kdl_extend (A := A) (R := fun rr s' => rr = .ok (.ret (.ref s.heap.objs.size)) ∧ ∃ (h' : Heap) (tk : Nat) (acc : Array Value) (c' : Nat), s' = { s with heap := h', toks := tk } ∧
      (∀ b o, s.heap.get? b = some o → h'.get? b = some o) ∧ h'.get? s.heap.objs.size = some { cls := .type "list", dict := none, data := .seq acc c', slots := #[] } ∧ ItemsOf P acc n)
    (s := { s with heap := s.heap.push { cls := .type "list", data := .seq ([] : List Value).toArray } }) K hh (K.keep _ _ hok fun b _ o e => Heap.get?_push_of_some _ e) _ (Nat.ne_of_gt hlt.1) (Nat.ne_of_gt hlt.2) _ 0 hS
    (fun h' tk acc c' hk e hi => ⟨rfl, h', tk, acc, c', rfl, fun b o q => hk b o (Nat.ne_of_lt (Heap.lt_size q)) (Heap.get?_push_of_some _ q), e, hi⟩) hn) (fun fin s' h => ?_) (fun e s' h => ?_)
  · cases fin with
    | done f =>
      obtain ⟨e, h', tk, acc, c', rfl, hk, hS', hi⟩ := h
      cases e
      show wpAny _ A (load s.heap.objs.size >>= _) _ _ _
      exact wpAny_bind (wpAny_load hS' (wpAny_pure (hQ h' tk acc hk hi)))
    | again c' =>
      refine ⟨h.1, codeAny_mono h.2 fun rr s'' hr' => ?_⟩
      obtain ⟨rfl, h', tk, acc, c', rfl, hk, hS', hi⟩ := hr'
      show wpAny _ A (load s.heap.objs.size >>= _) _ _ _
      exact wpAny_bind (wpAny_load hS' (wpAny_pure (hQ h' tk acc hk hi)))
  · exact absurd h.1 (by simp)

theorem code_tuple_new_dict {Q₁ : Value → Shared → Prop} (K : PySem.W.KdlSrc prog w "dict" r d n P OK) (hh : A.handled = none) (hok : OK s.heap) (hn : n ≤ sizeLine)
    (h : ∀ (h' : Heap) (tk : Nat) (acc : Array Value), (∀ b o, s.heap.get? b = some o → h'.get? b = some o) → ItemsOf P acc n →
      Q₁ (.ref h'.objs.size) { s with heap := h'.push { cls := .type "tuple", data := .seq acc }, toks := tk }) :
    codeAny (model prog w) A (.call (.builtin "tuple.__new__") ⟨[.type "tuple", .ref r], []⟩) (wants Q₁ E) s := by
  refine codeAny_of_tree ?_
  show wpAny _ A.in1 (do checkBuiltinCall "tuple.__new__" ⟨[.type "tuple", .ref r], []⟩; again (.builtin "tuple.__new__" ⟨[.type "tuple", .ref r], []⟩)) _ _ s
  refine wpAny_bind (wpAny_of_eq (F.newCall_tuple_1 _) (wpAny_pure ⟨plainId_quiet F.plain_tuple_new _, codeAny_builtin F.entry_tuple_new ?_⟩))
  rw [Around.under_plainId F.plain_tuple_new _]
  have hsub := sub_tuple_self
  have hinit := init_tuple_lookup
  have hmh := madeHere_tuple
  have hTI : s.TypeIs (.ref r) "dict" := K.type s hok
  have hh1 : A.in1.handled = none := hh
  wp_walk using wpAny_typeOf hTI, collect_src (A := A.in1) K hh1 hok hn
  intro h' tk acc hk hacc
  show wpAny _ _ (Builtin.Tuple.tupleExact acc.toList.toArray >>= fun v => ret v) _ _ _
  unfold Builtin.Tuple.tupleExact
  refine wpAny_bind (wpAny_newObj_type ?_ (by show acc.toList.toArray.size ≤ sizeLine; simp only [Array.toArray_toList]; rw [hacc.1]; exact hn))
  refine wpAny_pure ?_
  have e : acc.toList.toArray = acc := by simp
  rw [e]
  exact h h' tk acc hk hacc

theorem call_tuple_src {Q : Value → Shared → Prop} (K : PySem.W.KdlSrc prog w "dict" r d n P OK) (hh : A.handled = none) (hok : OK s.heap) (hn : n ≤ sizeLine)
    (hQ : ∀ (h' : Heap) (tk : Nat) (acc : Array Value), (∀ b o, s.heap.get? b = some o → h'.get? b = some o) → ItemsOf P acc n →
      Q (.ref h'.objs.size) { s with heap := h'.push { cls := .type "tuple", data := .seq acc }, toks := tk }) :
    wpAny (model prog w) A (call (.type "tuple") [.ref r]) Q E s := by
  refine callType_codes (Q₁ := fun obj s₁ => s₁.TypeIs obj "tuple" ∧ Q obj s₁) F.called_tuple (F.typeCall_tuple_1 _) F.entry_object_init
    (code_tuple_new_dict (A := A.in1) K hh hok hn fun h' tk acc hk hacc => ⟨⟨_, Heap.get?_push_size _ rfl, rfl⟩, hQ h' tk acc hk hacc⟩) fun obj s₁ h₁ => ?_
  exact ⟨h₁.1, F.args_object_init_2 obj _, object_init_meets F.called_tuple.init.lookup F.called_tuple.made (by decide) prog w A.in1 _ s₁ ⟨h₁.1, rfl, h₁.2⟩⟩
end

theorem keyIs_relM {k : Key} {v : Value} (h : keyIs k v = true) : RelV (kV k) v := by
  rcases keyIs_shape h with ⟨i, t, e1, e2⟩ | ⟨x, t, e1, e2⟩
  · subst e1; exact ⟨t, e2⟩
  · subst e1; exact ⟨t, e2⟩
theorem vals_of_atM : ∀ {xs : List V} {us : List Value}, xs.length = us.length → (∀ (j : Nat) (x : V) (u : Value), xs[j]? = some x → us[j]? = some u → RelV x u) → Vals xs us
  | [], [], _, _ => .nil
  | [], _ :: _, h, _ => by simp at h
  | _ :: _, [], h, _ => by simp at h
  | x :: xs, u :: us, h, f => .cons (f 0 x u rfl rfl) (vals_of_atM (by simpa using h) fun j y w h1 h2 => f (j + 1) y w (by simpa using h1) (by simpa using h2))

/-- tuple(d): a new tuple of the keys -/
def rTupD : List V → Hp → VK → Prop := fun xs H Q => ∃ p kvs, xs = [.ref p] ∧ H p = some (.dK kvs) ∧ ∀ q, H q = none → Q (.ref q) (upd H q (.tup (kvs.map fun kv => kV kv.1)))
theorem call_tuple_dK {X : Cx} (hc : X.calm = true) : CallR X (.type "tuple") rTupD := by
  intro pins s σ H xs us Q I r h
  obtain ⟨p, kvs, e, hk, q⟩ := h
  subst e
  obtain ⟨u, eu, rx⟩ := vals1 r
  subst eu
  obtain rfl : u = Value.ref p := rx
  obtain ⟨z, lo, vs, rk, hd⟩ := (show ObjOk X.prog X.w H s.heap p (.dK kvs) from I.hok p _ hk)
  obtain ⟨ep, hat⟩ := hd.dictAt
  have hl : kvs.length = vs.length := Paired.length rk
  refine call_tuple_src (PySem.W.kdl_dict (knd := mixKind X.prog X.w) (kvs := vs) (ep := ep) lo) (I.ok.hd hc) hat (by rw [← hl]; exact z) fun h' tk acc hkeep hacc => ?_
  have I1 : Inv X pins σ H { s with heap := h', toks := tk } := I.kept (t' := tk) hkeep
  refine ⟨.ref h'.objs.size, upd H h'.objs.size (.tup (kvs.map fun kv => kV kv.1)), I1.laid (t' := tk) (fun b o e => Heap.get?_push_of_some _ e) (Nat.le_refl _) (show ObjOk X.prog X.w _ _ _ (.tup (kvs.map fun kv => kV kv.1)) from ⟨?_, acc.toList, ?_, ?_⟩), rfl, q _ (I1.hok.fresh (Nat.le_refl _))⟩
  · rw [List.length_map]; exact z
  · have el : acc.toList.length = acc.size := by simp
    refine vals_of_atM (by rw [List.length_map, el, hacc.1, hl]) fun j x w h1 h2 => ?_
    obtain ⟨k, y, hky, hi⟩ := hacc.2 j w (by rw [← Array.getElem?_toList]; exact h2)
    have e1 : (kvs.map (·.1))[j]? = some k := by
      rw [KV.keys rk, List.getElem?_map, hky] <;> rfl
    have e2 : (kvs.map fun kv => kV kv.1)[j]? = some (kV k) := by
      have e3 : (kvs.map fun kv => kV kv.1) = (kvs.map (·.1)).map kV := by rw [List.map_map] <;> rfl
      rw [e3, List.getElem?_map, e1] <;> rfl
    rw [e2] at h1
    cases h1
    exact keyIs_relM hi
  · rw [Array.toArray_toList]; exact IsTup.new _ _

/-! ### == of dicts whose values are data -/
def DpKV (K : PySem.W.Frag) (H : Hp) (ks : List (Key × V)) (ds : List (Key × PyData)) : Prop := Paired (fun p q => p.1 = q.1 ∧ Dp K H p.2 q.2 ∧ SeqAt.shaped q.2 = true) ks ds
def valD (es : List (Key × PyData)) (k : Key) : Option PyData := (es.find? fun p => decide (p.1 = k)).map (·.2)
def eqvKV (es : List (Key × PyData)) : List (Key × PyData) → Bool
  | [] => true
  | p :: r => (match valD es p.1 with | some e => PyData.eqv p.2 e | none => false) && eqvKV es r
section
variable {X : Cx} {pins : List (Addr × Obj)} {σ : L2.St} {H : Hp} {s : Shared}
theorem DpKV.val {K : PySem.W.Frag} {ls : List (Key × V)} {es : List (Key × PyData)} (h : DpKV K H ls es) (k : Key) : (valV ls k = none ∧ valD es k = none) ∨ ∃ v e, valV ls k = some v ∧ valD es k = some e ∧ Dp K H v e ∧ SeqAt.shaped e = true := by
  unfold valV valD
  induction h with
  | nil => exact .inl ⟨rfl, rfl⟩
  | @cons p q ps qs h t ih =>
    obtain ⟨h1, h2, h3⟩ := h
    by_cases e : p.1 = k
    · rw [List.find?_cons_of_pos (by simpa using e), List.find?_cons_of_pos (by rw [← h1]; simpa using e)]
      exact .inr ⟨_, _, rfl, rfl, h2, h3⟩
    · rw [List.find?_cons_of_neg (by simpa using e), List.find?_cons_of_neg (by rw [← h1]; simpa using e)]
      exact ih
theorem hits_data (I : Inv X pins σ H s) (hu : X.A.in1.units + 64 < cLine) {ls : List (Key × V)} {vb : List (Key × Value)} (rb : KV ls vb) {es : List (Key × PyData)} (hb : DpKV X.K H ls es) :
    ∀ {ks : List (Key × V)} {va : List (Key × Value)} {ds : List (Key × PyData)}, KV ks va → DpKV X.K H ks ds → PySem.W.KeqHits X.A.in1 s vb va (eqvKV es ds) := by
  intro ks va ds ra ha
  unfold KV at ra
  induction ra generalizing ds with
  | nil =>
    cases ha
    exact .nil
  | @cons p q ps qs h t ih =>
    cases ha with
    | @cons _ d _ dr hd tl =>
      obtain ⟨h1, h2⟩ := h
      obtain ⟨g1, g2, g3⟩ := hd
      obtain ⟨key, v⟩ := q
      have h1' : p.1 = key := h1
      have ek : d.1 = key := by rw [← g1]; exact h1
      unfold eqvKV
      rw [ek]
      have rr := rb.val key
      rcases hb.val key with ⟨n1, n2⟩ | ⟨y, e, n1, n2, n3, n4⟩
      · rw [n2]
        rw [n1] at rr
        have nn : valueAt vb key = none := by
          cases hv : valueAt vb key with
          | none => rfl
          | some z => rw [hv] at rr; exact rr.elim
        exact .miss nn
      · rw [n2]
        rw [n1] at rr
        obtain ⟨z, hz, rz⟩ := rr.some_of
        obtain ⟨as, r1⟩ := Dp.reads I d.2 p.2 v g2 h2
        obtain ⟨bs, r2⟩ := Dp.reads I e y z n3 rz
        exact .hit hz (PySem.W.keq_at r1 r2 g3 n4 hu) (ih tl)
def rEqDD (K : PySem.W.Frag) : R2 := fun x y H Q => ∃ a b ks ls ds es, x = .ref a ∧ y = .ref b ∧ H a = some (.dK ks) ∧ H b = some (.dK ls) ∧ DpKV K H ks ds ∧ DpKV K H ls es ∧ Q (.bl (decide (ds.length = es.length) && eqvKV es ds)) H
theorem op_eqDD (hu : X.A.units + 65 < cLine) : OpR X (compareOp .Eq) (rEqDD X.K) := by
  intro pins s σ H x y v u Q I rx ry h
  obtain ⟨a, b, ks, ls, ds, es, rfl, rfl, ea, eb, ha, hb, q⟩ := h
  obtain rfl : v = Value.ref a := rx
  obtain rfl : u = Value.ref b := ry
  obtain ⟨_, ya, va, ra, da⟩ := (show ObjOk X.prog X.w H s.heap a (.dK ks) from I.hok a _ ea)
  obtain ⟨_, yb, vb, rb, db⟩ := (show ObjOk X.prog X.w H s.heap b (.dK ls) from I.hok b _ eb)
  have e1 : va.length = ds.length := by rw [← ra.length]; exact Paired.length ha
  have e2 : vb.length = es.length := by rw [← rb.length]; exact Paired.length hb
  refine PySem.W.keq_eq (knd := mixKind X.prog X.w) (r := eqvKV es ds) ya yb da db (by omega) (fun _ => hits_data I (by show X.A.units + 1 + 64 < cLine; omega) rb hb ra ha) ?_
  refine ⟨.bl _, H, I, rfl, ?_⟩
  rw [show (va.length == vb.length) = decide (ds.length = es.length) from by rw [e1, e2]; rfl]
  exact q
end
end Mf
/-! sorted(xs) of a list of texts of any length. -/
namespace Mf
open PySem PySem.Spec PyProof.Rows L2
section
variable {P : Program} {w : World} {A : Around} {E : Value → Shared → Prop} {s : Shared}
theorem sorted_lst {a : Addr} {its : List Value} {xs : List Str} {Q : Value → Shared → Prop} (hl : s.heap.IsList a its.toArray) (hS : StrsAre its xs) (few : its.length ≤ sizeLine)
    (hQ : ∀ (h' : Heap) (s' : Shared) p (out : Array Value) (c : Nat) (ys : List Str), (∀ b o, s.heap.get? b = some o → h'.get? b = some o) → (∀ b (o : Obj), h'.get? b = some o → s'.heap.get? b = some o) → s'.gens = s.gens → s'.os = s.os → h'.objs.size ≤ p →
      s'.heap.get? p = some (seqObj "list" out c) → StrsAre out.toList ys → sortedS ys = true → ys.Perm xs → Q (.ref p) s') :
    wpAny (model P w) A (call (.builtin "sorted") [.ref a]) Q E s := by
  refine Calls.call_function_entry kind_sorted plain_sorted entry_sorted (args_sorted1 _) ?_
  unfold Builtin.«sorted»
  refine wpAny_bind (m := checkCount "sorted" 1 1 _) (wpAny_pure ?_)
  obtain ⟨o, ho, hc, n, hd⟩ := hl
  refine wpAny_bind (wpAny_collect_seq (hsz := by simpa using few) a (.inl rfl) ho hc hd fun h' hk => ?_)
  have len := (strs_val hS).1
  have el : its.toArray.toList = its := by simp
  rw [el]
  refine wpAny_bind (wpAny_newList ?_ few)
  have hoL : (h'.push (seqObj "list" its.toArray 0)).get? h'.objs.size = some (seqObj "list" its.toArray 0) := Heap.get?_push_size _ rfl
  refine wpAny_bind (wpAny_holding (wpAny_call_entry slot_list_sort ⟨_, hoL, rfl⟩ entry_list_sort (list_sort_treeKAny strKind_oneLt hoL hS.keysOf (fun v₁ v₂ rest e => keyKind_strs (by rw [← e]; exact hS)) few fun st' hp hs => ⟨_, rfl, ?_⟩) (args_list_sort _)))
  obtain ⟨ys, g1', g2, g3⟩ := sorted_out_str hS hp hs
  obtain ⟨c, hc⟩ := sortedHeap_at (vs := its) (out := (arrOf st').map (·.2)) hoL
  refine wpAny_pure ⟨_, rfl, hQ h' _ h'.objs.size _ c ys hk (fun b u q => ?_) rfl rfl (Nat.le_refl _) hc g1' g3 g2⟩
  have lt := Heap.lt_size q
  show (sortedHeap (h'.push (seqObj "list" its.toArray 0)) h'.objs.size its _).get? b = some u
  rw [sortedHeap_old (Nat.ne_of_lt lt) (by rw [size_push']; exact Nat.lt_succ_of_lt lt)]
  exact Heap.get?_push_of_some _ q
end
section
variable {X : Cx}
/-- sorted(xs) of a list of texts -/
def rSortedL (K : PySem.W.Frag) : List V → Hp → VK → Prop := fun vs H Q => ∃ (a : Addr) (xs : List Str), vs = [V.ref a] ∧ SqL K H a (xs.map V.str) ∧
  ∀ (ys : List Str) (p : Addr), ys.Perm xs → sortedS ys = true → H p = none → Q (.ref p) (upd H p (.lst (ys.map V.str)))
theorem cr_sortedL : CallR X (.builtin "sorted") (rSortedL X.K) := by
  intro pins s σ H vs us Q I r h
  obtain ⟨a, xs, rfl, hs, q⟩ := h
  obtain ⟨its, rv, hl, hz⟩ := I.list hs
  rw [Vals.ref1 r]
  have hlen0 := rv.length
  rw [List.length_map] at hlen0
  rw [List.length_map] at hz
  refine sorted_lst hl.isList rv.strs (by rw [← hlen0]; exact hz) fun h' s' p out c ys k0 k g o hp hg hS so pm => ?_
  have I1 := I.kept (t' := s.toks) k0
  have hn : H p = none := I1.hok.fresh hp
  have few : (ys.map V.str).length ≤ sizeLine := by rw [List.length_map, pm.length_eq]; exact hz
  have J : Inv X pins σ (upd H p (.lst (ys.map V.str))) { ({ s with heap := h' } : Shared) with heap := s'.heap, gens := s'.gens, drawn := s'.drawn, toks := s'.toks } :=
    I1.call (ch := []) (Un.laid k hp hn) (I1.hok.laid k hp ⟨few, out.toList, c, vals_of_strs hS, hg⟩) (by rw [g]; exact I.bare) fun _ z => nomatch z
  have e : s' = { s with heap := s'.heap, gens := s'.gens, drawn := s'.drawn, toks := s'.toks } := by
    rcases s' with ⟨_, _, _, _, _⟩
    cases o
    rfl
  rw [e]
  exact ⟨.ref p, _, J, rfl, q ys p pm so hn⟩
theorem k_sortedL (K : PySem.W.Frag) (h : X.K = K := by rfl) : CallR X (.builtin "sorted") (rSortedL K) := h ▸ cr_sortedL
end
end Mf
/-! The text of a program. -/
namespace Mf
open PySem L2
/-- an f-string's reading, under a name -/
def tJoin (ts : List TE) : TE := fun σ H Q => tJs ts Str.empty σ H fun out H1 => Q (.str out) H1
theorem pe_jn {X : Cx} {v1 v2 : Expr} {rest : List Expr} {ts : List TE} {pos : Pos} (h : PJ X (v1 :: v2 :: rest) ts) : PE X (.JoinedStr (v1 :: v2 :: rest) pos) (tJoin ts) := pe_joined h
def stepT (s : Step) : Str := ((((Str.empty ++ (" " : Str)) ++ s.1) ++ (" " : Str)) ++ s.2)
def lineT (n : Str) (ss : List Step) : Str := (n ++ (":" : Str)) ++ Txt.join ("," : Str) (ss.map stepT)
def textT (x : List Pc) : Str := Txt.join ("\n" : Str) (x.map fun y => lineT y.1 y.2)
theorem tl_sp : TL.tl (" " : Str) = [32] := by decide +kernel
theorem tl_co : TL.tl (":" : Str) = [58] := by decide +kernel
theorem tl_cm : TL.tl ("," : Str) = [44] := by decide +kernel
theorem tl_nl : TL.tl ("\n" : Str) = [10] := by decide +kernel
theorem tl_cs : TL.tl (", " : Str) = [44, 32] := by decide +kernel
theorem tl_c2 : TL.tl (": " : Str) = [58, 32] := by decide +kernel
theorem tl_em : TL.tl Str.empty = [] := rfl
theorem tl_step (s : Step) : TL.tl (stepT s) = 32 :: (TL.tl s.1 ++ 32 :: TL.tl s.2) := by
  unfold stepT
  rw [TL.tl_append, TL.tl_append, TL.tl_append, TL.tl_append, tl_sp, tl_em]
  simp
theorem tl_joinT (y : Str) (ps : List Str) : TL.tl (Txt.join y ps) = TL.joinL (TL.tl y) (ps.map TL.tl) := by rw [TL.join_eq, TL.tl_join]
theorem tl_line (n : Str) (ss : List Step) : TL.tl (lineT n ss) = TL.tl n ++ 58 :: TL.joinL [44] ((ss.map stepT).map TL.tl) := by
  unfold lineT
  rw [TL.tl_append, TL.tl_append, tl_co, tl_joinT, tl_cm]
  simp
/-- the blank in front of each piece goes into what stands between them -/
theorem join_blank (ps : List (List Nat)) (ne : ps ≠ []) : TL.joinL [44] (ps.map fun p => 32 :: p) = 32 :: TL.joinL [44, 32] ps := by
  induction ps with
  | nil => exact absurd rfl ne
  | cons p r ih =>
    cases r with
    | nil => rfl
    | cons q r =>
      show (32 :: p) ++ ([44] ++ TL.joinL [44] ((q :: r).map fun p => 32 :: p)) = 32 :: (p ++ ([44, 32] ++ TL.joinL [44, 32] (q :: r)))
      rw [ih (by simp)]
      simp
/-- the law's own writing of a line -/
def lawLine (n : Str) (ss : List Step) : Str := if ss.length = 0 then n ++ (":" : Str) else (n ++ (": " : Str)) ++ Txt.join (", " : Str) (ss.map fun s => (s.1 ++ (" " : Str)) ++ s.2)
theorem lawLine_eq (n : Str) (ss : List Step) : lawLine n ss = lineT n ss := by
  refine TL.ext_tl ?_
  rw [tl_line]
  unfold lawLine
  by_cases e : ss.length = 0
  · rw [if_pos e]
    obtain rfl := List.eq_nil_of_length_eq_zero e
    rw [TL.tl_append, tl_co]; rfl
  · rw [if_neg e, TL.tl_append, TL.tl_append, tl_c2, tl_joinT, tl_cs]
    have e1 : (ss.map stepT).map TL.tl = ((ss.map fun s => (s.1 ++ (" " : Str)) ++ s.2).map TL.tl).map fun p => 32 :: p := by
      rw [List.map_map, List.map_map, List.map_map]
      refine List.map_congr_left fun s _ => ?_
      show TL.tl (stepT s) = 32 :: TL.tl ((s.1 ++ (" " : Str)) ++ s.2)
      rw [tl_step, TL.tl_append, TL.tl_append, tl_sp]
      simp
    rw [e1, join_blank _ (fun h => e (by rw [← List.length_map (f := fun s : Step => (s.1 ++ (" " : Str)) ++ s.2), ← List.length_map (f := TL.tl), h]; rfl))]
    simp
/-- no sign of a name or of a kind stands between the parts -/
def Plain (z : Str) : Prop := ∀ c ∈ TL.tl z, 97 ≤ c ∧ c ≤ 122
theorem IsName.plain {z : Str} (h : IsName z) : Plain z := h.2.2
theorem Plain.not {z : Str} (h : Plain z) {c : Nat} (l : c < 97) : ¬ c ∈ TL.tl z := fun m => by have := (h c m).1; omega
theorem step_no {s : Step} (h1 : Plain s.1) (h2 : Plain s.2) {c : Nat} (l : c < 97) (n : c ≠ 32) : ¬ c ∈ TL.tl (stepT s) := fun m => by
  rw [tl_step] at m
  simp only [List.mem_cons, List.mem_append] at m
  rcases m with m | m | m | m
  · exact n m
  · exact h1.not l m
  · exact n m
  · exact h2.not l m
theorem joinL_no {S : List Nat} {c : Nat} (hS : ¬ c ∈ S) : ∀ {ps : List (List Nat)}, (∀ p ∈ ps, ¬ c ∈ p) → ¬ c ∈ TL.joinL S ps
  | [], _ => by show ¬ c ∈ []; simp
  | [p], h => h p List.mem_cons_self
  | p :: q :: r, h => by
    show ¬ c ∈ p ++ (S ++ TL.joinL S (q :: r))
    rw [List.mem_append, List.mem_append]
    rintro (m | m | m)
    · exact h p List.mem_cons_self m
    · exact hS m
    · exact joinL_no hS (fun x hx => h x (List.mem_cons_of_mem _ hx)) m
theorem line_no {n : Str} {ss : List Step} (hn : Plain n) (h : ∀ s ∈ ss, Plain s.1 ∧ Plain s.2) : ¬ 10 ∈ TL.tl (lineT n ss) := fun m => by
  rw [tl_line, List.mem_append, List.mem_cons] at m
  rcases m with m | m | m
  · exact hn.not (by decide) m
  · exact absurd m (by decide)
  · refine joinL_no (S := [44]) (by decide) (fun p hp => ?_) m
    obtain ⟨z, hz, rfl⟩ := List.mem_map.mp hp
    obtain ⟨s, hs, rfl⟩ := List.mem_map.mp hz
    exact step_no (h s hs).1 (h s hs).2 (by decide) (by decide)
theorem split_text {x : List Pc} (ne : x ≠ []) (h : ∀ y ∈ x, Plain y.1 ∧ ∀ s ∈ y.2, Plain s.1 ∧ Plain s.2) : Txt.split (textT x) ("\n" : Str) = x.map fun y => lineT y.1 y.2 := by
  unfold textT
  refine TL.split_join tl_nl (by decide +kernel) (fun e => ne (List.map_eq_nil_iff.mp e)) fun p hp => ?_
  obtain ⟨y, hy, rfl⟩ := List.mem_map.mp hp
  exact line_no (h y hy).1 (h y hy).2
theorem part_line {n : Str} {ss : List Step} (hn : Plain n) : Txt.partition (lineT n ss) (":" : Str) = (n, (":" : Str), Txt.join ("," : Str) (ss.map stepT)) :=
  TL.partition_app tl_co (hn.not (by decide))
theorem split_steps {ss : List Step} (ne : ss ≠ []) (h : ∀ s ∈ ss, Plain s.1 ∧ Plain s.2) : Txt.split (Txt.join ("," : Str) (ss.map stepT)) ("," : Str) = ss.map stepT := by
  refine TL.split_join tl_cm (by decide +kernel) (fun e => ne (List.map_eq_nil_iff.mp e)) fun p hp => ?_
  obtain ⟨s, hs, rfl⟩ := List.mem_map.mp hp
  exact step_no (h s hs).1 (h s hs).2 (by decide) (by decide)
theorem steps_empty {ss : List Step} : Txt.join ("," : Str) (ss.map stepT) = Str.empty ↔ ss = [] := by
  constructor
  · intro e
    cases ss with
    | nil => rfl
    | cons s r =>
      have q := congrArg TL.tl e
      rw [tl_joinT, List.map_cons, List.map_cons, tl_step] at q
      cases r with
      | nil => cases q
      | cons t r => cases q
  · rintro rfl
    refine TL.ext_tl ?_
    rw [tl_joinT]; rfl
theorem cut_one {z : Str} {c : Nat} {r : List Nat} (h : TL.tl z = c :: r) : TL.tl (cutS z (some 1) none) = r := by
  have hl : z.length = r.length + 1 := by rw [len_tl, show z.cps.toList = TL.tl z from rfl, h]; rfl
  have h1 : HT.sIx z.length 0 (some 1) = 1 := by unfold HT.sIx; simp; omega
  have h2 : HT.sIx z.length z.length none = z.length := rfl
  unfold cutS
  rw [h1, h2]
  show ((TL.tl z).drop 1).take (z.length - 1) = r
  rw [h, hl]
  simp
theorem cut_step (s : Step) : cutS (stepT s) (some 1) none = (s.1 ++ (" " : Str)) ++ s.2 := by
  refine TL.ext_tl ?_
  rw [TL.tl_append, TL.tl_append, tl_sp, cut_one (tl_step s)]
  simp
/-! ### lengths -/
theorem joinL_len {S : List Nat} {k : Nat} : ∀ {ps : List (List Nat)}, (∀ p ∈ ps, p.length ≤ k) → (TL.joinL S ps).length ≤ ps.length * (k + S.length)
  | [], _ => Nat.zero_le _
  | [p], h => by
    show p.length ≤ 1 * (k + S.length)
    have := h p List.mem_cons_self
    omega
  | p :: q :: r, h => by
    show (p ++ (S ++ TL.joinL S (q :: r))).length ≤ _
    have a := joinL_len (S := S) (ps := q :: r) fun x hx => h x (List.mem_cons_of_mem _ hx)
    have b := h p List.mem_cons_self
    rw [List.length_append, List.length_append, List.length_cons, Nat.add_mul]
    omega
def Short (s : Step) : Prop := s.1.length ≤ 8 ∧ s.2.length ≤ 8
theorem len_of (z : Str) : z.length = (TL.tl z).length := len_tl z
theorem app_len (x y : Str) : (x ++ y).length = x.length + y.length := by rw [len_of, len_of x, len_of y, TL.tl_append, List.length_append]
theorem sp_len : (" " : Str).length = 1 := by decide +kernel
theorem co_len : (":" : Str).length = 1 := by decide +kernel
theorem em_len : Str.empty.length = 0 := rfl
theorem step_len {s : Step} (h : Short s) : (stepT s).length ≤ 18 := by
  have a := h.1; have b := h.2
  rw [len_of] at a b ⊢
  rw [tl_step, List.length_cons, List.length_append, List.length_cons]
  omega
theorem line_len {n : Str} {ss : List Step} (hn : n.length ≤ 8) (l : ss.length ≤ 12) (h : ∀ s ∈ ss, Short s) : (lineT n ss).length ≤ 240 := by
  rw [len_of] at hn ⊢
  rw [tl_line, List.length_append, List.length_cons]
  have a := joinL_len (S := [44]) (k := 18) (ps := (ss.map stepT).map TL.tl) fun p hp => by
    obtain ⟨z, hz, rfl⟩ := List.mem_map.mp hp
    obtain ⟨s, hs, rfl⟩ := List.mem_map.mp hz
    have := step_len (h s hs)
    rw [len_of] at this
    exact this
  rw [List.length_map, List.length_map, List.length_singleton] at a
  omega
theorem text_len {x : List Pc} (l : x.length ≤ 16) (h : ∀ y ∈ x, y.1.length ≤ 8 ∧ y.2.length ≤ 12 ∧ ∀ s ∈ y.2, Short s) : (textT x).length ≤ 4000 := by
  rw [len_of]
  unfold textT
  rw [tl_joinT, tl_nl]
  have a := joinL_len (S := [10]) (k := 240) (ps := (x.map fun y => lineT y.1 y.2).map TL.tl) fun p hp => by
    obtain ⟨z, hz, rfl⟩ := List.mem_map.mp hp
    obtain ⟨y, hy, rfl⟩ := List.mem_map.mp hz
    have := line_len (h y hy).1 (h y hy).2.1 (h y hy).2.2
    rw [len_of] at this
    exact this
  rw [List.length_map, List.length_map, List.length_singleton] at a
  omega
theorem sum_le {k : Nat} : ∀ {ys : List Str}, (∀ y ∈ ys, y.length ≤ k) → (ys.map (·.length)).sum ≤ ys.length * k
  | [], _ => Nat.zero_le _
  | y :: r, h => by
    rw [List.map_cons, List.sum_cons, List.length_cons, Nat.add_mul]
    have a := sum_le fun x hx => h x (List.mem_cons_of_mem _ hx)
    have b := h y List.mem_cons_self
    omega
theorem part_step {s : Step} (h : Plain s.1) : Txt.partition ((s.1 ++ (" " : Str)) ++ s.2) (" " : Str) = (s.1, (" " : Str), s.2) := TL.partition_app tl_sp (h.not (by decide))
end Mf
/-! str(x) by an own __str__ -/
namespace Mf
open PySem PySem.Spec PySem.Calls PyProof.Rows L2
section
variable {prog : Program} {w : World} {A : Around} {E : Value → Shared → Prop} {s : Shared} {K : PySem.W.Frag} {x C f : Addr} {ox : Obj} {od : Option Obj} {Q : Value → Shared → Prop}
abbrev IsTxt (Q : Value → Shared → Prop) : Value → Shared → Prop := fun v s' => ∃ z t, v = .str z t ∧ Q v s'
/-- what str.__new__ asks of its argument -/
theorem own_strOf (hu : A.units < cLine) (X : K.In s.heap) (I : PySem.W.InstAt s.heap x ox C od) (at_ : PySem.W.findIn K (.ref C) "__str__" = some (some (.ref f))) (fn : PySem.W.isFn K (.ref f) = true)
    (h : wpAny (model prog w) A (call (.ref f) [.ref x]) (IsTxt Q) E s) : wpAny (model prog w) A (PySem.Builtin.Str.strOf (.ref x)) (IsTxt Q) E s := by
  have step : wpAny (model prog w) A (callSpecial? (.ref x) (Str.ofString "__str__") []) (fun r s' => ∃ v, r = some v ∧ IsTxt Q v s') E s :=
    PySem.W.special_fn X I at_ (beq_iff_eq.mp fn) (wpAny_mono h (fun v s' q => ⟨v, rfl, q⟩) fun _ _ e => e)
  unfold PySem.Builtin.Str.strOf; rw [if_neg (fun e : PySem.Builtin.Str.isExactStr (.ref x) = true => Bool.noConfusion e)]
  refine wpAny_bind (wpAny_cRoomFor hu (wpAny_bind (m := callSpecial? (.ref x) (Str.ofString "__str__")) (wpAny_mono step (fun r s' q => ?_) fun _ _ e => e)))
  obtain ⟨v, rfl, z, t, rfl, q⟩ := q
  exact wpAny_pure ⟨z, t, rfl, q⟩
open PySem.W in
/-- str(x), x of an own class -/
theorem own_str (hu : A.in1.in1.units < cLine) (X : K.In s.heap) (I : InstAt s.heap x ox C od) (at_ : findIn K (.ref C) "__str__" = some (some (.ref f))) (fn : isFn K (.ref f) = true)
    (h : wpAny (model prog w) A.in1.in1 (call (.ref f) [.ref x]) (IsTxt Q) E s) : wpAny (model prog w) A (call (.type "str") [.ref x]) Q E s := by
  have made : wpAny (model prog w) A.in1.in1 (Builtin.«str.__new__» ⟨[.type "str", .ref x], []⟩) (fun r s' => ∃ v, r = .done (.ret v) ∧ IsTxt Q v s') E s := by
    rw [str_new_tree]
    exact wpAny_bind (wpAny_pure (wpAny_bind (wpAny_of_eq isSubtype_str_str (wpAny_bind (wpAny_mono (own_strOf hu X I at_ fn h) (fun v _ q => wpAny_pure ⟨v, rfl, q⟩) fun _ _ e => e)))))
  refine callType_codes (T := "str") (Bi := Builtin.«object.__init__») (Q₁ := IsTxt Q) PySem.F.called_str (PySem.F.typeCall_str_1 _) PySem.F.entry_object_init (codeAny_of_tree ?_) fun obj s' q => ?_
  · show wpAny _ _ (do checkBuiltinCall "str.__new__" ⟨[.type "str", .ref x], []⟩
                       again (.builtin "str.__new__" ⟨[.type "str", .ref x], []⟩)) _ _ _
    have quiet : plainId "str.__new__" = true := by decide +kernel
    refine wpAny_bind (wpAny_of_eq (PySem.F.newCall_str_1 _) (wpAny_pure ⟨plainId_quiet quiet _, codeAny_builtin PySem.F.entry_str_new ?_⟩))
    rw [Around.under_plainId quiet _]
    refine wpAny_mono made (fun r s' q => ?_) fun _ _ e => e
    obtain ⟨v, rfl, q⟩ := q
    exact q
  · obtain ⟨z, t, rfl, q⟩ := q
    exact ⟨typeIs_str _ _ _, PySem.F.args_object_init_2 _ _, object_init_meets PySem.F.called_str.init.lookup PySem.F.called_str.made (by decide) prog w A.in1 _ s' ⟨typeIs_str _ _ _, rfl, q⟩⟩
end
section
variable {X : Cx} {CX : CXT} {k : Nat} {f C a dx : Addr} {fd : FuncData} {ps : List Str} {sp : Sp} {E : XK}
/-- str(x) -/
def rStrO (C : Addr) (sp : Sp) (E : XK) : List V → Hp → VK → Prop := fun xs H Q => ∃ a dx fs, xs = [.ref a] ∧ H a = some (.ins C dx fs) ∧ sp xs H (fun v H' => ∃ z, v = .str z ∧ Q v H') E
theorem call_strO (m : Meth X.K C "__str__" f) (F : FnOk X.prog X.w X.K X.mg X.base CX k f fd ps sp) (hr : Room (k + 2) X.A) (hb : Binds X.K fd ps []) (hx : Passes CX X E) : CallR X (.type "str") (rStrO C sp E) := fun pins s σ H xs us Q I r ⟨a, dx, fs, ex, ha, q⟩ => by
  subst ex
  rw [Vals.ref1 r]
  obtain ⟨od, J⟩ := Inv.inst I ha
  refine own_str (hr.in1.in1).units0 I.kIn J m.at_ m.fn (wpAny_mono (run_in (us := [.ref a]) (vs := [.ref a]) F hr.in1.in1 hb .nil hx I.env0.in1.in1 I (.cons rfl .nil) (by rw [List.append_nil]; exact q)) (fun z s' e => ?_) fun _ _ e => e)
  obtain ⟨z', H', I', rz, y, rfl, qz⟩ := e
  obtain ⟨t, rfl⟩ := (show ∃ t, z = Value.str y t from rz)
  exact ⟨y, t, rfl, .str y, H', I', ⟨_, rfl⟩, qz⟩
end
end Mf
/-! for a, b, c in zip(x, y, z), three lists -/
namespace PySem
/-- a tuple of three -/
abbrev IsTri (h : Heap) (T : Addr) (a b c : Value) : Prop := h.get? T = some { cls := .type "tuple", data := .seq #[a, b, c] }
/-- the five objects that a turn writes to are five; the drawn ones' tuple and the lists are none of them -/
structure Z3 (z TI TO i j k p q r : Addr) : Prop where
  five : [z, TO, i, j, k].Nodup
  ti : TI ∉ [z, TO, i, j, k]
  p : p ∉ [z, TO, i, j, k]
  q : q ∉ [z, TO, i, j, k]
  r : r ∉ [z, TO, i, j, k]
namespace F
theorem mf_zip3_type (a b c : Value) : checkTypeCall "zip" ⟨[a, b, c], []⟩ = pure () := by kernel_rfl
theorem mf_zip3_new (a b c : Value) : checkBuiltinCall "zip.__new__" ⟨[.type "zip", a, b, c], []⟩ = pure () := by kernel_rfl
theorem mf_init_4 (a b c d : Value) : argsOk "object.__init__" ⟨[a, b, c, d], []⟩ := by
  have h := args_object_init_3 a b c
  unfold argsOk at h ⊢
  rw [signature?_of (id := "object.__init__") (n := ['_', '_', 't', 'i', 'n', 'i', '_', '_']) (o := ['t', 'c', 'e', 'j', 'b', 'o']) (by kernel_rfl) owner_object] at h ⊢
  kernel_rfl
end F
section
variable {prog : Program} {w : World} {A : Around} {E : Value → Shared → Prop} {s : Shared} {z TI TO i j k p q r : Addr} {n : Nat} {xs ys zs : Array Value} {x y u a b c : Value}
/-- one slot of the kept tuple is written -/
theorem tri_put {T : Addr} {v : Value} {m : Nat} {Q : Unit → Shared → Prop} (hT : IsTri s.heap T a b c)
    (h : ∀ h', h'.get? T = some { cls := .type "tuple", data := .seq ((#[a, b, c] : Array Value).setIfInBounds m v) } → Heap.SameBut T s.heap h' → Q () { s with heap := h' }) : wpAny (model prog w) A (updateSeq T fun t => t.setIfInBounds m v) Q E s := by
  refine wpAny_updateSeq hT rfl (h _ ?_ (Heap.SameBut.update ..))
  have e := Heap.get?_update_self (Obj.mapSeq fun t => t.setIfInBounds m v) hT rfl
  simpa [Obj.mapSeq] using e
/-- all but z, TO, i, j, k stays -/
def Z3But (z TO i j k : Addr) (h h' : Heap) : Prop := ∀ d o, d ∉ [z, TO, i, j, k] → h.get? d = some o → h'.get? d = some o
open Builtin.SmallTypes in
theorem z3_item (D : Z3 z TI TO i j k p q r) {Q : Option Value → Shared → Prop} (hz : IsZip s.heap z TI TO .none) (hTI : IsTri s.heap TI (.ref i) (.ref j) (.ref k)) (hTO : IsTri s.heap TO a b c)
    (hi : s.heap.IsListIter i p n) (hj : s.heap.IsListIter j q n) (hk : s.heap.IsListIter k r n) (lp : s.heap.IsList p xs) (lq : s.heap.IsList q ys) (lr : s.heap.IsList r zs) (ex : xs[n]? = some x) (ey : ys[n]? = some y) (eu : zs[n]? = some u)
    (hQ : ∀ h', IsZip h' z TI TO (rawInt s.heap.objs.size) → IsTri h' TO x y u → h'.IsListIter i p (n + 1) → h'.IsListIter j q (n + 1) → h'.IsListIter k r (n + 1) → IsTri h' s.heap.objs.size x y u → Z3But z TO i j k s.heap h' → Q (some (.ref s.heap.objs.size)) { s with heap := h' }) :
    wpAny (model prog w) A (pyNext (.ref z)) Q E s := by
  have five := D.five; have ti := D.ti; have np := D.p; have nq := D.q; have nr := D.r
  simp only [List.nodup_cons, List.mem_cons, List.not_mem_nil, or_false, not_or, List.nodup_nil, and_true, not_false_eq_true] at five ti np nq nr
  obtain ⟨⟨zT, zi, zj, zk⟩, ⟨Ti, Tj, Tk⟩, ⟨ij, ik⟩, jk⟩ := five
  replace zT : z ≠ TO := zT; replace zi : z ≠ i := zi; replace zj : z ≠ j := zj; replace zk : z ≠ k := zk; replace Ti : TO ≠ i := Ti
  replace Tj : TO ≠ j := Tj; replace Tk : TO ≠ k := Tk; replace ij : i ≠ j := ij; replace ik : i ≠ k := ik; replace jk : j ≠ k := jk
  obtain ⟨p1, p2, p3, p4, p5⟩ := np
  obtain ⟨q1, q2, q3, q4, q5⟩ := nq
  obtain ⟨r1, r2, r3, r4, r5⟩ := nr
  have body : ∀ E', wpAny (model prog w) A.in1 (Builtin.«zip.__next__» ⟨[.ref z], []⟩) (fun fin s' => ∃ v, fin = .done (.ret v) ∧ Q (some v) s') E' s := by
    intro E'
    show wpAny _ _ (field (.ref z) 2 >>= _) _ _ _; refine wpAny_bind (wpAny_field hz rfl (x := .bool false) rfl ?_)
    show wpAny _ _ (field (.ref z) 3 >>= _) _ _ _; refine wpAny_bind (wpAny_field hz rfl (x := .ref TI) rfl ?_)
    refine wpAny_bind (wpAny_seqItems hTI rfl ?_); show wpAny _ _ (ownedTupleIsFree (.ref z) >>= _) _ _ _; refine wpAny_bind ?_
    unfold ownedTupleIsFree; refine wpAny_bind (wpAny_field hz rfl (x := .none) rfl (wpAny_pure ?_))
    simp only [if_true]; refine wpAny_bind (wpAny_rule ?_)
    refine wpAny_bind (wpAny_field hz rfl (x := .ref TO) rfl ?_); refine wpAny_bind (wpAny_setField_rec hz (by simp) fun g1 z1 e1 => ?_)
    replace z1 : IsZip g1 z TI TO .ellipsis := z1
    refine wpAny_bind ?_
    simp only [List.zipIdx_cons, List.zipIdx_nil, List.forIn_cons, List.forIn_nil]
    -- the first
    refine wpAny_bind (wpAny_bind (wpAny_onRaise ?_)); show wpAny _ _ (nextOf (.ref i) >>= _) _ _ _
    refine wpAny_bind (wpAny_nextOf_list_item (hi.extBut e1.extBut zi.symm) (lp.extBut e1.extBut p1) ex fun g2 i2 e2 => wpAny_pure ?_)
    have T2 : IsTri g2 TO a b c := e2.extBut _ _ Ti (e1.extBut _ _ zT.symm hTO)
    refine wpAny_bind (wpAny_seqItems T2 rfl ?_)
    refine wpAny_bind (tri_put T2 fun g3 T3 e3 => ?_)
    replace T3 : IsTri g3 TO x b c := T3; refine wpAny_bind (wpAny_letGo (wpAny_pure ?_))
    -- the second
    refine wpAny_bind (wpAny_bind (wpAny_onRaise ?_)); show wpAny _ _ (nextOf (.ref j) >>= _) _ _ _
    refine wpAny_bind (wpAny_nextOf_list_item (((hj.extBut e1.extBut zj.symm).extBut e2.extBut ij.symm).extBut e3.extBut Tj.symm) (((lq.extBut e1.extBut q1).extBut e2.extBut q3).extBut e3.extBut q2) ey fun g4 j4 e4 => wpAny_pure ?_)
    have T4 : IsTri g4 TO x b c := e4.extBut _ _ Tj T3
    refine wpAny_bind (wpAny_seqItems T4 rfl ?_)
    refine wpAny_bind (tri_put T4 fun g5 T5 e5 => ?_)
    replace T5 : IsTri g5 TO x y c := T5; refine wpAny_bind (wpAny_letGo (wpAny_pure ?_))
    -- the third
    refine wpAny_bind (wpAny_bind (wpAny_onRaise ?_)); show wpAny _ _ (nextOf (.ref k) >>= _) _ _ _
    refine wpAny_bind (wpAny_nextOf_list_item (((((hk.extBut e1.extBut zk.symm).extBut e2.extBut ik.symm).extBut e3.extBut Tk.symm).extBut e4.extBut jk.symm).extBut e5.extBut Tk.symm)
      (((((lr.extBut e1.extBut r1).extBut e2.extBut r3).extBut e3.extBut r2).extBut e4.extBut r4).extBut e5.extBut r2) eu fun g6 k6 e6 => wpAny_pure ?_)
    have T6 : IsTri g6 TO x y c := e6.extBut _ _ Tk T5
    refine wpAny_bind (wpAny_seqItems T6 rfl ?_)
    refine wpAny_bind (tri_put T6 fun g7 T7 e7 => ?_)
    replace T7 : IsTri g7 TO x y u := T7; refine wpAny_bind (wpAny_letGo (wpAny_pure (wpAny_pure ?_)))
    -- the tuple that is handed out
    refine wpAny_bind (wpAny_seqItems T7 rfl ?_); refine wpAny_bind (wpAny_newTuple ?_)
    have sz : g7.objs.size = s.heap.objs.size := by rw [e7.1, e6.1, e5.1, e4.1, e3.1, e2.1, e1.1]
    have z7 : IsZip g7 z TI TO .ellipsis := e7.extBut _ _ zT (e6.extBut _ _ zk (e5.extBut _ _ zT (e4.extBut _ _ zj (e3.extBut _ _ zT (e2.extBut _ _ zi z1)))))
    have but7 : Z3But z TO i j k s.heap g7 := fun d o nd e => by
      simp only [List.mem_cons, List.not_mem_nil, or_false, not_or] at nd
      obtain ⟨d1, d2, d3, d4, d5⟩ := nd
      exact e7.extBut _ _ d2 (e6.extBut _ _ d5 (e5.extBut _ _ d2 (e4.extBut _ _ d4 (e3.extBut _ _ d2 (e2.extBut _ _ d3 (e1.extBut _ _ d1 e))))))
    have i7 : g7.IsListIter i p (n + 1) := ((((i2.extBut e3.extBut Ti.symm).extBut e4.extBut ij).extBut e5.extBut Ti.symm).extBut e6.extBut ik).extBut e7.extBut Ti.symm
    have j7 : g7.IsListIter j q (n + 1) := ((j4.extBut e5.extBut Tj.symm).extBut e6.extBut jk).extBut e7.extBut Tj.symm
    have k7 : g7.IsListIter k r (n + 1) := k6.extBut e7.extBut Tk.symm
    have zlt : z < g7.objs.size := Heap.lt_size z7
    show wpAny _ _ (ownedTupleHandOut (.ref z) (.ref g7.objs.size) >>= _) _ _ _; refine wpAny_bind ?_
    unfold ownedTupleHandOut
    have z8 : IsZip (g7.push { cls := .type "tuple", data := .seq #[x, y, u] }) z TI TO .ellipsis := Heap.get?_push_of_some _ z7
    refine wpAny_bind (wpAny_setField_rec z8 (by simp) fun g9 z9 e9 => ?_)
    replace z9 : IsZip g9 z TI TO (rawInt g7.objs.size) := z9
    refine wpAny_setField_rec z9 (by simp) fun g z' e => ?_
    replace z' : IsZip g z TI TO (rawInt g7.objs.size) := z'
    have up : ∀ d o, d ≠ z → g7.get? d = some o → g.get? d = some o := fun d o n1 q => e.extBut _ _ n1 (e9.extBut _ _ n1 (Heap.get?_push_of_some _ q))
    have T' : IsTri g g7.objs.size x y u := e.extBut _ _ (Nat.ne_of_gt zlt) (e9.extBut _ _ (Nat.ne_of_gt zlt) (Heap.get?_push_size _ rfl))
    rw [sz] at z' T'
    refine wpAny_pure ⟨_, rfl, ?_⟩
    show Q (some (.ref g7.objs.size)) _
    rw [sz]
    exact hQ g z' (up _ _ zT.symm T7) (i7.at fun o q => up _ o zi.symm q) (j7.at fun o q => up _ o zj.symm q) (k7.at fun o q => up _ o zk.symm q) T' fun d o nd q => up d o (fun e => nd (by simp [e])) (but7 d o nd q)
  have hT : s.TypeIs (.ref z) "zip" := ⟨_, hz, rfl⟩
  unfold pyNext
  refine wpAny_bind (wpAny_attempt (wpAny_callSpecial?_slot (name := Str.ofString "__next__") hT F.slot_zip_next (wpAny_call_entry F.slot_zip_next hT F.entry_zip_next (wpAny_mono (body _) (fun fin s' f => ?_) fun _ _ e => e) (F.args_zip_next_1 _))))
  obtain ⟨v, e, q⟩ := f
  exact ⟨v, e, wpAny_pure q⟩
open Builtin.SmallTypes in
/-- the first list has come to its end -/
theorem z3_end (hh : A.handled = none) (D : Z3 z TI TO i j k p q r) {Q : Option Value → Shared → Prop} (hz : IsZip s.heap z TI TO .none) (hTI : IsTri s.heap TI (.ref i) (.ref j) (.ref k)) (hi : s.heap.IsListIter i p n) (lp : s.heap.IsList p xs) (ex : xs[n]? = none)
    (hQ : ∀ h', Z3But z TO i j k s.heap h' → Q none { s with heap := h' }) : wpAny (model prog w) A (pyNext (.ref z)) Q E s := by
  have five := D.five; have np := D.p
  simp only [List.nodup_cons, List.mem_cons, List.not_mem_nil, or_false, not_or, List.nodup_nil, and_true, not_false_eq_true] at five np
  obtain ⟨⟨zT, zi, zj, zk⟩, _⟩ := five
  replace zi : z ≠ i := zi
  obtain ⟨p1, p2, p3, p4, p5⟩ := np
  have body : wpAny (model prog w) A.in1 (Builtin.«zip.__next__» ⟨[.ref z], []⟩) (fun _ _ => False) (fun e s' => (∃ o, s'.heap.get? (match e with | .ref e => e | _ => 0) = some o ∧ o.cls = .type "StopIteration" ∧ ∃ b, e = .ref b) ∧ ∃ h', Z3But z TO i j k s.heap h' ∧ s' = { s with heap := h' }) s := by
    show wpAny _ _ (field (.ref z) 2 >>= _) _ _ _; refine wpAny_bind (wpAny_field hz rfl (x := .bool false) rfl ?_)
    show wpAny _ _ (field (.ref z) 3 >>= _) _ _ _; refine wpAny_bind (wpAny_field hz rfl (x := .ref TI) rfl ?_)
    refine wpAny_bind (wpAny_seqItems hTI rfl ?_); show wpAny _ _ (ownedTupleIsFree (.ref z) >>= _) _ _ _; refine wpAny_bind ?_
    unfold ownedTupleIsFree; refine wpAny_bind (wpAny_field hz rfl (x := .none) rfl (wpAny_pure ?_))
    simp only [if_true]; refine wpAny_bind (wpAny_rule ?_)
    refine wpAny_bind (wpAny_field hz rfl (x := .ref TO) rfl ?_); refine wpAny_bind (wpAny_setField_rec hz (by simp) fun g1 z1 e1 => ?_)
    replace z1 : IsZip g1 z TI TO .ellipsis := z1
    refine wpAny_bind ?_
    simp only [List.zipIdx_cons, List.zipIdx_nil, List.forIn_cons, List.forIn_nil]
    refine wpAny_bind (wpAny_bind (wpAny_onRaise ?_)); show wpAny _ _ (nextOf (.ref i) >>= _) _ _ _
    refine wpAny_bind (wpAny_nextOf_list_end hh (hi.extBut e1.extBut zi.symm) (lp.extBut e1.extBut p1) ex fun g2 e e2 he => ?_)
    obtain ⟨oe, hoe, hce⟩ := he
    have z2 : IsZip g2 z TI TO .ellipsis := e2 _ _ zi z1
    have ez : e ≠ z := fun x => by rw [x, z2] at hoe; cases hoe; simp at hce
    refine wpAny_setField_rec z2 (by simp) fun g3 _ e3 => ⟨⟨oe, e3.extBut _ _ ez hoe, hce, e, rfl⟩, g3, fun d o nd q => ?_, rfl⟩
    simp only [List.mem_cons, List.not_mem_nil, or_false, not_or] at nd
    exact e3.extBut _ _ nd.1 (e2 _ _ nd.2.2.1 (e1.extBut _ _ nd.1 q))
  have hT : s.TypeIs (.ref z) "zip" := ⟨_, hz, rfl⟩
  unfold pyNext
  refine wpAny_bind (wpAny_attempt (wpAny_callSpecial?_slot (name := Str.ofString "__next__") hT F.slot_zip_next (wpAny_call_entry F.slot_zip_next hT F.entry_zip_next (wpAny_mono body (fun _ _ f => f.elim) fun e s' f => ?_) (F.args_zip_next_1 _))))
  obtain ⟨⟨o, ho, hc, b, rfl⟩, h', but, rfl⟩ := f
  exact wpAny_bind (wpAny_isInstance (T := "StopIteration") (b := true) ⟨o, ho, hc⟩ isSubtype_stop (wpAny_pure (hQ _ but)))
end
section
/-- the heap behind zip(p, q, r) -/
abbrev z3h1 (h : Heap) (p : Addr) : Heap := h.push { cls := .type "list_iterator", data := .fields #[.ref p, .int 0 0] }
abbrev z3h2 (h : Heap) (p q : Addr) : Heap := (z3h1 h p).push { cls := .type "list_iterator", data := .fields #[.ref q, .int 0 0] }
abbrev z3h3 (h : Heap) (p q r : Addr) : Heap := (z3h2 h p q).push { cls := .type "list_iterator", data := .fields #[.ref r, .int 0 0] }
abbrev z3h4 (h : Heap) (p q r : Addr) : Heap := (z3h3 h p q r).push { cls := .type "tuple", data := .seq #[.ref h.objs.size, .ref (z3h1 h p).objs.size, .ref (z3h2 h p q).objs.size] }
abbrev z3h5 (h : Heap) (p q r : Addr) : Heap := (z3h4 h p q r).push { cls := .type "tuple", data := .seq #[.none, .none, .none] }
abbrev z3h6 (h : Heap) (p q r : Addr) : Heap := (z3h5 h p q r).push { cls := .type "zip", data := .fields #[.none, .bool false, .bool false, .ref (z3h3 h p q r).objs.size, .ref (z3h4 h p q r).objs.size] }
theorem meets_zip3 (p q r : Addr) (xs ys zs : Array Value) : Meets (Builtin.«zip.__new__» ⟨[.type "zip", .ref p, .ref q, .ref r], []⟩) (fun _ R s => (s.heap.IsList p xs ∧ s.heap.IsList q ys ∧ s.heap.IsList r zs) ∧
      R (.ok (.ret (.ref (z3h5 s.heap p q r).objs.size))) { s with heap := z3h6 s.heap p q r }) :=
  .of_wp fun prog w A R s h => by
    obtain ⟨hp, g, d, tk, os⟩ := s
    obtain ⟨⟨l1, l2, l3⟩, h⟩ := h
    have sz := sub_zip
    have m1 : Heap.IsList (Shared.heap ⟨hp, g, d, tk, os⟩) p xs := l1
    have m2 : Heap.IsList (Shared.heap ⟨z3h1 hp p, g, d, tk, os⟩) q ys := Heap.IsList.push l2 _
    have m3 : Heap.IsList (Shared.heap ⟨z3h2 hp p q, g, d, tk, os⟩) r zs := Heap.IsList.push (Heap.IsList.push l3 _) _
    wp_walk using wpAny_pyIter_list m1, wpAny_pyIter_list m2, wpAny_pyIter_list m3
    exact ⟨_, rfl, h⟩
end
section
variable {prog : Program} {w : World} {A : Around} {E : Value → Shared → Prop} {s : Shared} {p q r : Addr} {xs ys zs : Array Value}
theorem call_zip3 {Q : Value → Shared → Prop} {n : Nat} (hn : s.heap.objs.size = n) (l1 : s.heap.IsList p xs) (l2 : s.heap.IsList q ys) (l3 : s.heap.IsList r zs)
    (h : ∀ h', IsZip h' (n + 5) (n + 3) (n + 4) .none → IsTri h' (n + 3) (.ref n) (.ref (n + 1)) (.ref (n + 2)) → IsTri h' (n + 4) .none .none .none → h'.IsListIter n p 0 → h'.IsListIter (n + 1) q 0 → h'.IsListIter (n + 2) r 0 →
      (∀ c o, s.heap.get? c = some o → h'.get? c = some o) → Q (.ref (n + 5)) { s with heap := h' }) : wpAny (model prog w) A (call (.type "zip") [.ref p, .ref q, .ref r]) Q E s := by
  subst hn
  have n1 : (z3h1 s.heap p).objs.size = s.heap.objs.size + 1 := Heap.size_push ..
  have n2 : (z3h2 s.heap p q).objs.size = s.heap.objs.size + 2 := by rw [Heap.size_push, n1]
  have n3 : (z3h3 s.heap p q r).objs.size = s.heap.objs.size + 3 := by rw [Heap.size_push, n2]
  have n4 : (z3h4 s.heap p q r).objs.size = s.heap.objs.size + 4 := by rw [Heap.size_push, n3]
  have n5 : (z3h5 s.heap p q r).objs.size = s.heap.objs.size + 5 := by rw [Heap.size_push, n4]
  have up2 : ∀ c o, (z3h1 s.heap p).get? c = some o → (z3h6 s.heap p q r).get? c = some o := fun c o e => Heap.get?_push_of_some _ (Heap.get?_push_of_some _ (Heap.get?_push_of_some _ (Heap.get?_push_of_some _ (Heap.get?_push_of_some _ e))))
  have up3 : ∀ c o, (z3h2 s.heap p q).get? c = some o → (z3h6 s.heap p q r).get? c = some o := fun c o e => Heap.get?_push_of_some _ (Heap.get?_push_of_some _ (Heap.get?_push_of_some _ (Heap.get?_push_of_some _ e)))
  have up4 : ∀ c o, (z3h3 s.heap p q r).get? c = some o → (z3h6 s.heap p q r).get? c = some o := fun c o e => Heap.get?_push_of_some _ (Heap.get?_push_of_some _ (Heap.get?_push_of_some _ e))
  have a1 : (z3h6 s.heap p q r).get? s.heap.objs.size = some _ := up2 _ _ (Heap.get?_push_size _ rfl)
  have a2 : (z3h6 s.heap p q r).get? (z3h1 s.heap p).objs.size = some _ := up3 _ _ (Heap.get?_push_size _ rfl)
  have a3 : (z3h6 s.heap p q r).get? (z3h2 s.heap p q).objs.size = some _ := up4 _ _ (Heap.get?_push_size _ rfl)
  have a4 : (z3h6 s.heap p q r).get? (z3h3 s.heap p q r).objs.size = some _ := Heap.get?_push_of_some _ (Heap.get?_push_of_some _ (Heap.get?_push_size _ rfl))
  have a5 : (z3h6 s.heap p q r).get? (z3h4 s.heap p q r).objs.size = some _ := Heap.get?_push_of_some _ (Heap.get?_push_size _ rfl)
  have a6 : (z3h6 s.heap p q r).get? (z3h5 s.heap p q r).objs.size = some _ := Heap.get?_push_size _ rfl
  refine callType_new F.called_zip (by decide) (F.mf_zip3_type _ _ _) (F.mf_zip3_new _ _ _) (fun obj => F.mf_init_4 obj _ _ _) F.entry_zip_new (meets_zip3 p q r xs ys zs) ⟨⟨l1, l2, l3⟩, ?_⟩
  show _ ∧ _
  rw [n1] at a2
  rw [n2] at a3
  rw [n1, n2, n3] at a4
  rw [n4] at a5
  rw [n3, n4, n5] at a6
  rw [n5]
  exact ⟨⟨_, a6, rfl⟩, h _ a6 a4 a5 ⟨_, a1, rfl, rfl⟩ ⟨_, a2, rfl, rfl⟩ ⟨_, a3, rfl, rfl⟩ fun c o e => up2 c o (Heap.get?_push_of_some _ e)⟩
end
end PySem
namespace Mf
open PySem PySem.Spec PyProof.Rows L2
section
variable {P : Program} {w : World} {K : PySem.W.Frag}
/-- three lists, the items in new tuples of three -/
def It3 (K : PySem.W.Frag) (p q r : Addr) : It :=
  ⟨fun i H => ∃ (xs ys zs : List V) (x y z : V), (SqL K H p xs ∧ SqL K H q ys ∧ SqL K H r zs) ∧ xs[i]? = some x ∧ ys[i]? = some y ∧ zs[i]? = some z,
    fun i H v H' => ∃ T x y z, v = .ref T ∧ H T = none ∧ H' = upd H T (.tup [x, y, z]) ∧ (∀ xs, SqL K H p xs → xs[i]? = some x) ∧ (∀ ys, SqL K H q ys → ys[i]? = some y) ∧ ∀ zs, SqL K H r zs → zs[i]? = some z,
    fun i H => ∃ xs : List V, SqL K H p xs ∧ xs.length ≤ i⟩
theorem turn3 {elts : List Expr} {kk : Nat} {tpos : Pos} {p q r z TI TO i1 i2 i3 : Addr} (D : Z3 z TI TO i1 i2 i3 p q r) :
    Turn P w K (.Tuple elts kk tpos) (It3 K p q r) [z, TI, TO, i1, i2, i3] z (fun i h => IsZip h z TI TO .none ∧ IsTri h TI (.ref i1) (.ref i2) (.ref i3) ∧ (∃ x y v, IsTri h TO x y v) ∧ h.IsListIter i1 p i ∧ h.IsListIter i2 q i ∧ h.IsListIter i3 r i) := by
  have five := D.five; have ti := D.ti
  simp only [List.nodup_cons, List.mem_cons, List.not_mem_nil, or_false, not_or, List.nodup_nil, and_true, not_false_eq_true] at five ti
  have away : ∀ {c : Addr} {l : List Addr}, c ∉ z :: TI :: l → c ∉ z :: l := fun h e => h (by rcases List.mem_cons.mp e with e | e; exact .head _ |> (e ▸ ·); exact .tail _ (.tail _ e))
  refine ⟨by simp, fun i h st c hc => ?_, fun i h h' st k => ?_, ?_, ?_, fun A i s Q E st h => wpAny_pyIter_zip st.1 h⟩
  · obtain ⟨hz, hTI, ⟨x, y, v, hTO⟩, ⟨o1, e1, _, d1⟩, ⟨o2, e2, _, d2⟩, ⟨o3, e3, _, d3⟩⟩ := st
    simp only [List.mem_cons, List.not_mem_nil, or_false] at hc
    rcases hc with rfl | rfl | rfl | rfl | rfl | rfl
    · exact ⟨_, hz, fun v q => nomatch q⟩
    · exact ⟨_, hTI, fun v q => nomatch q⟩
    · exact ⟨_, hTO, fun v q => nomatch q⟩
    · exact ⟨o1, e1, fun v q => by rw [d1] at q; cases q⟩
    · exact ⟨o2, e2, fun v q => by rw [d2] at q; cases q⟩
    · exact ⟨o3, e3, fun v q => by rw [d3] at q; cases q⟩
  · obtain ⟨hz, hTI, ⟨x, y, v, hTO⟩, h1, h2, h3⟩ := st
    exact ⟨k z (by simp) _ hz, k TI (by simp) _ hTI, ⟨x, y, v, k TO (by simp) _ hTO⟩, h1.at fun o e => k i1 (by simp) o e, h2.at fun o e => k i2 (by simp) o e, h3.at fun o e => k i3 (by simp) o e⟩
  · intro X hP hw hK hc i pins s σ H E I hf st hg
    subst hP hw hK
    obtain ⟨hz, hTI, ⟨x0, y0, v0, hTO⟩, h1, h2, h3⟩ := st
    obtain ⟨xs, ys, zs, x, y, v, ⟨qx, qy, qz⟩, ex, ey, ev⟩ := hg
    obtain ⟨ix, rx, px, _⟩ := I.list qx
    obtain ⟨iy, ry, py, _⟩ := I.list qy
    obtain ⟨iz, rz, pz, _⟩ := I.list qz
    obtain ⟨ux, hx, sx⟩ := rx.get ex
    obtain ⟨uy, hy, sy⟩ := ry.get ey
    obtain ⟨uz, hv, sv⟩ := rz.get ev
    have zl : z < s.heap.objs.size := Heap.lt_size hz
    have lts : ∀ c ∈ [z, TI, TO, i1, i2, i3], c < s.heap.objs.size := fun c hc => by
      simp only [List.mem_cons, List.not_mem_nil, or_false] at hc
      rcases hc with rfl | rfl | rfl | rfl | rfl | rfl
      · exact zl
      · exact Heap.lt_size hTI
      · exact Heap.lt_size hTO
      · obtain ⟨_, e, _⟩ := h1; exact Heap.lt_size e
      · obtain ⟨_, e, _⟩ := h2; exact Heap.lt_size e
      · obtain ⟨_, e, _⟩ := h3; exact Heap.lt_size e
    refine z3_item D hz hTI hTO h1 h2 h3 px.isList py.isList pz.isList (x := ux) (y := uy) (u := uz) (by simpa using hx) (by simpa using hy) (by simpa using hv) fun g gz gT g1 g2 g3 gn but => ?_
    refine ⟨_, rfl, wpAny_letOwnedTupleGo_zip (s := { s with heap := g }) gz fun g' gz' sb => ?_⟩
    have gn' : IsTri g' s.heap.objs.size ux uy uz := (sb.2 _ (Nat.ne_of_gt zl)).trans gn
    have new : ObjOk X.prog X.w (upd H s.heap.objs.size (.tup [x, y, v])) g' s.heap.objs.size (.tup [x, y, v]) := ⟨by show 3 ≤ sizeLine; decide, [ux, uy, uz], .cons sx (.cons sy (.cons sv .nil)), ⟨_, gn', rfl, _, rfl⟩⟩
    have I1 : Inv X pins σ (upd H s.heap.objs.size (.tup [x, y, v])) { s with heap := g' } :=
      Inv.turnedNew (t' := s.toks) (ch := [z, TI, TO, i1, i2, i3]) I (fun c o nc e => (sb.2 c fun q => nc (by simp [q])).trans (but c o (away (by simpa using nc)) e)) hf (Nat.le_refl _) new
    refine ⟨.ref s.heap.objs.size, _, I1, rfl, ⟨_, x, y, v, rfl, I.hok.fresh (Nat.le_refl _), rfl, fun l hl => by rw [I.list_inj hl qx]; exact ex, fun l hl => by rw [I.list_inj hl qy]; exact ey, fun l hl => by rw [I.list_inj hl qz]; exact ev⟩, ⟨gz', ?_, ⟨ux, uy, uz, ?_⟩, ?_, ?_, ?_⟩, fun c hc => ?_⟩
    · exact (sb.2 _ ti.1).trans (but _ _ D.ti hTI)
    · exact (sb.2 _ (Ne.symm five.1.1)).trans gT
    · exact g1.at fun o e => (sb.2 _ (Ne.symm five.1.2.1)).trans e
    · exact g2.at fun o e => (sb.2 _ (Ne.symm five.1.2.2.1)).trans e
    · exact g3.at fun o e => (sb.2 _ (Ne.symm five.1.2.2.2)).trans e
    · rw [upd_ne (Nat.ne_of_lt (lts c hc))]
      exact (hf c hc).1
  · intro X hP hw hK hc i pins s σ H E I hf st hg
    subst hP hw hK
    obtain ⟨hz, hTI, _, h1, _, _⟩ := st
    obtain ⟨xs, qx, le⟩ := hg
    obtain ⟨ix, rx, px, _⟩ := I.list qx
    have l := rx.length
    exact z3_end (I.ok.hd hc) D hz hTI h1 px.isList (by simp; omega) fun g but => ⟨rfl, Inv.turnedL (t' := s.toks) (ch := [z, TI, TO, i1, i2, i3]) I (fun c o nc e => but c o (away (by simpa using nc)) e) hf⟩
theorem vals3 {p q r : Addr} {us : List Value} (h : Vals [V.ref p, .ref q, .ref r] us) : us = [.ref p, .ref q, .ref r] := by
  cases h with
  | cons a h => cases h with
    | cons b h => cases h with
      | cons c h => cases h; cases a; cases b; cases c; rfl
theorem z3_new (n p q r : Nat) (hp : p < n) (hq : q < n) (hr : r < n) : Z3 (n + 5) (n + 3) (n + 4) n (n + 1) (n + 2) p q r := by
  have e : ∀ x : Nat, x < n → x ∉ [n + 5, n + 4, n, n + 1, n + 2] := fun x hx h => by
    simp only [List.mem_cons, List.not_mem_nil, or_false] at h
    omega
  exact ⟨by simp, by simp, e p hp, e q hq, e r hr⟩
theorem z3_ge (n : Nat) : ∀ c : Nat, c ∈ [n + 5, n + 3, n + 4, n, n + 1, n + 2] → n ≤ c := fun c hc => by
  simp only [List.mem_cons, List.not_mem_nil, or_false] at hc
  omega
def iZip3 (K : PySem.W.Frag) (ta : TA) : TI := fun σ H R => ta σ H fun vs H1 => ∃ p q r xs ys zs, vs = [.ref p, .ref q, .ref r] ∧ (SqL K H1 p xs ∧ SqL K H1 q ys ∧ SqL K H1 r zs) ∧ R (It3 K p q r) H1
theorem pi_zip3 {X : Cx} {e e2 e3 : Expr} {ta : TA} {pp pos tpos : Pos} {elts : List Expr} {kk : Nat} (hg : Gl X "zip") (hm : X.mg "zip" = none) (ha : PA X [e, e2, e3] ta)
    (hs : starEach [e, e2, e3] X.env = (false, eval e X.env) :: starEach [e2, e3] X.env := by rfl) (hpl : (backTo pos (starEach [e2, e3] X.env)).any (·.1) = false := by rfl) :
    PI X (.Tuple elts kk tpos) (.Call (.Name "zip" pp) [e, e2, e3] [] pos) (iZip3 X.K ta) := by
  refine ⟨fun pins s σ H R I h => ?_⟩
  refine Call_ (ld_blt I hg hm PyProof.Rows.boot_zip (PyProof.Rows.callWith_type1 (thn (ha.run pos pins s σ H _ I h) fun us s1 ⟨vs, H1, I1, r1, q1⟩ => ?_) hs hpl))
  obtain ⟨p, q, r, xs, ys, zs, rfl, ⟨qx, qy, qz⟩, k⟩ := q1
  rw [vals3 r1]
  obtain ⟨ix, rx, px, _⟩ := I1.list qx
  obtain ⟨iy, ry, py, _⟩ := I1.list qy
  obtain ⟨iz, rz, pz, _⟩ := I1.list qz
  have D := z3_new s1.heap.objs.size p q r px.lt py.lt pz.lt
  refine call_zip3 rfl px.isList py.isList pz.isList fun g gz gTI gTO g1 g2 g3 keep => wpAny_pyIter_zip gz ?_
  have I2 : Inv X pins σ H1 { s1 with heap := g } := I1.kept (t' := s1.toks) keep
  refine ⟨s1.heap.objs.size + 5, [s1.heap.objs.size + 5, s1.heap.objs.size + 3, s1.heap.objs.size + 4, s1.heap.objs.size, s1.heap.objs.size + 1, s1.heap.objs.size + 2], _, _, H1, rfl, I2, turn3 D, ⟨gz, gTI, ⟨_, _, _, gTO⟩, g1, g2, g3⟩, fun c hc => ?_, k⟩
  have le : s1.heap.objs.size ≤ c := z3_ge _ c hc
  exact I1.fpOk le (I1.hok.fresh le)
/-- a new tuple of three at each turn -/
def YTri (xs ys zs : Nat → Option V) : Nat → Hp → V → Hp → Prop := fun i H v H' => ∃ T x y z, v = .ref T ∧ H T = none ∧ H' = upd H T (.tup [x, y, z]) ∧ xs i = some x ∧ ys i = some y ∧ zs i = some z
theorem walk_zip3 {p q r : Addr} {xs ys zs : List V} {n : Nat} (hx : xs.length = n) (hy : ys.length = n) (hz : zs.length = n) :
    Walk (It3 K p q r) n (fun H => SqL K H p xs ∧ SqL K H q ys ∧ SqL K H r zs) (YTri (fun i => xs[i]?) (fun i => ys[i]?) fun i => zs[i]?) := by
  refine ⟨fun i _ hi k => ⟨xs, ys, zs, xs[i], ys[i], zs[i], k, by simp, by simp, by simp⟩, fun _ k => ⟨xs, k.1, by omega⟩, fun i H v H' _ k y => ?_⟩
  obtain ⟨T, a, b, c, h1, h2, h3, h4, h5, h6⟩ := y
  exact ⟨T, a, b, c, h1, h2, h3, h4 xs k.1, h5 ys k.2.1, h6 zs k.2.2⟩
end
end Mf
namespace Mf
open PySem L2
def top (i : Nat) : Stmt := PySem.Challenge.pw_midfall_k24_policies_told.main.body.getD i (.Pass ⟨0, 0, 0, 0⟩)
abbrev sSource : Stmt := top 8
abbrev sDraw : Stmt := top 9
section
variable {P : Program} {w : World} {K : PySem.W.Frag} {mg : Str → Option Value} {base : Heap}

/-! ### _law_source -/
def spSource (K : PySem.W.Frag) : Sp := fun vs H Q _ => ∃ (a : Addr) (ns : List Int), vs = [.ref a] ∧ SqL K H a (ns.map V.int) ∧ ns.length ≤ 63 ∧ ∀ p H', H p = none → Same H H' → Src H' p 1000000000 → Q (.ref p) H'
theorem scSource : FnScope ["_law_script", "_law_great", "_law_seed", "_law_k", "_law_cell"] ["_law_script"] (defScope sSource) := ⟨rfl, rfl, rfl, by decide +kernel, rfl, by decide +kernel, by decide +kernel⟩
theorem ok_source {f : Addr} {fd : FuncData} (F : Fun K "_law_source" "_law_source" sSource f fd) (mI : mg "int" = none) (mE : mg "enumerate" = none) : FnOk P w K mg base CX0 1 f fd ["_law_script"] (spSource K) := by
  refine F.ok scSource (fun vs H Q E h => ?_) (fun cdv A outer s H vs Q E hr h => ?_)
  · obtain ⟨a, ns, rfl, _⟩ := h
    rfl
  · obtain ⟨a, ns, rfl, hs, hl, k⟩ := h
    refine ⟨_, pss_cons (ps_set (i := 1) scSource.nd rfl (.inl rfl) pe_int) (pss_cons (ps_set (i := 2) scSource.nd rfl (.inl rfl) pe_int)
      (pss_cons (ps_for PassesOwn.never rfl (pi_enum (by rfl) mE (pa_cons (pv 0) pa_nil)) (pg_tup rfl (pgs_cons (pg_name (i := 3) scSource.nd rfl (.inl rfl)) (pgs_cons (pg_name (i := 4) scSource.nd rfl (.inl rfl)) pgs_nil)))
        (C8.pss_cut (ps_if (PW.pt (pw_and (pt_cmpR op_eq (pv 1) pe_int (nomark _)) (pw_and1 (pt_cmpR op_ge (pv 4) (pe_op op_pow pe_int pe_int) (nomark _))))) (pss_one (ps_set (i := 1) scSource.nd rfl (.inl rfl) (pv 4))) pss_nil)
        (pss_one (ps_set (i := 2) scSource.nd rfl (.inl rfl) (pe_op op_mod (pe_callTy call_int1 (by rfl) mI (by decide +kernel) (pa_cons (pe_op op_add (pe_op op_mul (pe_op op_add (pv 2) (pe_op op_mod (pe_callTy call_int1 (by rfl) mI (by decide +kernel) (pa_cons (pv 4) pa_nil)) pe_int)) pe_int) (pv 3)) pa_nil)) pe_int)))))
      (pss_one (ps_ret (pe_lst (pa_cons (pv 1) (pa_cons (pv 2) (pa_cons pe_int pa_nil)))))))), ?_⟩
    refine ⟨_, rfl, a, _, rfl, hs, ?_⟩
    refine for_it walk_enum (fun i σ H' => ∃ (g s : Int) (vk vc : Option V), σ = [some (.ref a), some (.int g), some (.int s), vk, vc] ∧ 0 ≤ s ∧ s < 2147483647 ∧ Same H H') ⟨0, 104729, none, none, rfl, by decide, by decide, Same.refl H⟩ (fun i σ H' _ h => h.choose_spec.choose_spec.choose_spec.choose_spec.2.2.2.seq hs) ?_ ?_
    · rintro i x σ H1 H2 hi ⟨g, s, vk, vc, rfl, s0, s1, sm⟩ ⟨T, x1, y, rfl, hT, rfl, e1, e2⟩
      obtain rfl : x1 = .int (i : Nat) := (Option.some.inj e1).symm
      have e2 : (ns.map V.int)[i]? = some y := e2
      rw [List.getElem?_map] at e2
      obtain ⟨m, _, rfl⟩ := Option.map_eq_some_iff.mp e2
      refine ⟨T, _, rfl, .of upd_same, rfl, _, _, rfl, _, _, rfl, rfl, ?_⟩
      refine ⟨fun σ' H' => ∃ g' : Int, σ' = [some (.ref a), some (.int g'), some (.int s), some (.int (i : Nat)), some (.int m)] ∧ H' = upd H1 T (.tup [.int (i : Nat), .int m]), ?_, ?_⟩
      · refine ⟨_, rfl, rfl, _, rfl, ite2 (fun _ => ?_) fun _ => ?_⟩
        · refine ⟨_, rfl, _, _, rfl, rfl, ⟨by decide, by decide, by decide⟩, _, _, rfl, rfl, _, rfl, ite2 (fun _ => ?_) fun _ => ?_⟩
          · exact ⟨_, rfl, m, rfl, rfl⟩
          · exact ⟨g, rfl, rfl⟩
        · exact iteF ⟨g, rfl, rfl⟩
      · rintro σ' H' ⟨g', rfl, rfl⟩
        refine ⟨_, rfl, _, rfl, .inl ⟨_, rfl, _, _, rfl, rfl, (by show (0 : Int) < 2147483629; decide), _, _, rfl, rfl, _, _, rfl, rfl, .inr ⟨(by show -(2 ^ 64) < (48271 : Int); decide), (by show (48271 : Int) < 2 ^ 64; decide)⟩, _, rfl, _, _, rfl, rfl, .inl ⟨_, rfl, _, _, rfl, rfl, (by show (0 : Int) < 2147483647; decide), ?_⟩⟩⟩
        exact ⟨_, _, _, _, rfl, Int.emod_nonneg _ (by decide), Int.emod_lt_of_pos _ (by decide), sm.trans (Same.new hT)⟩
    · rintro σ H1 ⟨g, s, vk, vc, rfl, s0, s1, sm⟩
      refine ⟨_, rfl, _, rfl, (by show 3 ≤ sizeLine; decide), fun p hp => ?_⟩
      exact k p _ (sm.free hp) (sm.trans (Same.new hp)) ⟨g, s, 0, upd_same, s0, s1, by decide, by decide⟩

/-! ### _law_draw -/
def spDraw : Sp := fun vs H Q _ => ∃ (a : Addr) (many : Int) (n : Nat), vs = [.ref a, .int many] ∧ 0 < many ∧ many.natAbs < 2 ^ 200 ∧ Src H a (n + 1) ∧ ∀ v H', 0 ≤ v → v < many → Kp a H H' → Src H' a n → Q (.int v) H'
theorem scDraw : FnScope ["_law_source_here", "_law_many", "_law_value", "_law_stirred"] ["_law_source_here", "_law_many"] (defScope sDraw) := ⟨rfl, rfl, rfl, by decide +kernel, rfl, by decide +kernel, by decide +kernel⟩
theorem ok_draw {f : Addr} {fd : FuncData} (F : Fun K "_law_draw" "_law_draw" sDraw f fd) (mI : mg "int" = none) : FnOk P w K mg base CX0 1 f fd ["_law_source_here", "_law_many"] spDraw := by
  refine F.ok scDraw (fun vs H Q E h => ?_) (fun cdv A outer s H vs Q E hr h => ?_)
  · obtain ⟨a, m, n, rfl, _⟩ := h
    rfl
  · obtain ⟨a, many, n, rfl, m0, mb, ⟨g, sd, c, ha, s0, s1, c0, c1⟩, k⟩ := h
    refine ⟨_, pss_cons (ps_if (pt_cmpR op_gt (pe_ix ix_list (pv 0) pe_int (fun _ _ => rfl)) pe_int (nomark _))
        (pss_cons (ps_set (i := 2) scDraw.nd rfl (.inl rfl) (pe_op op_mod (pe_callTy call_int1 (by rfl) mI (by decide +kernel) (pa_cons (pe_ix ix_list (pv 0) pe_int (fun _ _ => rfl)) pa_nil)) (pv 1)))
        (pss_cons (ps_asg (pe_op op_fdivW (pe_ix ix_list (pv 0) pe_int (fun _ _ => rfl)) (pv 1)) (pg_sub (pv 0) pe_int set_list))
        (pss_one (ps_ret (pv 2))))) pss_nil)
      (pss_cons (ps_asg (pe_op op_add (pe_ix ix_list (pv 0) pe_int (fun _ _ => rfl)) pe_int) (pg_sub (pv 0) pe_int set_list))
      (pss_cons (ps_set (i := 3) scDraw.nd rfl (.inl rfl) (pe_op op_mod (pe_callTy call_int1 (by rfl) mI (by decide +kernel) (pa_cons (pe_op op_pow (pe_op op_add (pe_ix ix_list (pv 0) pe_int (fun _ _ => rfl)) (pe_op op_mul pe_int (pe_ix ix_list (pv 0) pe_int (fun _ _ => rfl)))) pe_int) pa_nil)) pe_int))
      (pss_one (ps_ret (pe_op op_mod (pe_callTy call_int1 (by rfl) mI (by decide +kernel) (pa_cons (pe_op op_mod (pe_callTy call_int1 (by rfl) mI (by decide +kernel) (pa_cons (pe_op op_mul (pe_op op_add (pv 3) (pe_ix ix_list (pv 0) pe_int (fun _ _ => rfl))) pe_int) pa_nil)) pe_int) pa_nil)) (pv 1)))))), ?_⟩
    refine ⟨_, rfl, a, _, _, _, rfl, rfl, .of ha, rfl, _, _, rfl, rfl, _, rfl, ite2 (fun _ => ?_) fun _ => ?_⟩
    · refine ⟨_, rfl, a, _, _, _, rfl, rfl, .of ha, rfl, .inl ⟨_, rfl, _, rfl, _, _, rfl, rfl, m0, ?_⟩⟩
      refine ⟨_, rfl, a, _, _, _, rfl, rfl, .of ha, rfl, _, rfl, _, _, rfl, rfl, wide_div m0 mb (by decide) (by decide), _, rfl, a, _, _, 0, rfl, rfl, ha, rfl, _, rfl, ?_⟩
      exact k _ _ (Int.emod_nonneg _ (by omega)) (Int.emod_lt_of_pos _ m0) (Kp.refl.put) ⟨g / many, sd, c, upd_same, s0, s1, c0, by omega⟩
    · refine ⟨_, rfl, a, _, _, _, rfl, rfl, .of ha, rfl, _, _, rfl, rfl, _, rfl, a, _, _, 2, rfl, rfl, ha, rfl, ?_⟩
      have h2 : (upd H a (.lst [.int g, .int sd, .int (c + 1)])) a = some (.lst [.int g, .int sd, .int (c + 1)]) := upd_same
      refine ⟨_, rfl, a, _, _, _, rfl, rfl, .of h2, rfl, _, rfl, a, _, _, _, rfl, rfl, .of h2, rfl, _, _, rfl, rfl, .inl ⟨(by show -(2 ^ 64) < (7919 : Int); decide), (by show (7919 : Int) < 2 ^ 64; decide)⟩, _, _, rfl, rfl, _, _, rfl, rfl, ⟨by decide, by decide, ?_⟩, .inl ⟨_, rfl, _, _, rfl, rfl, (by show (0 : Int) < 2147483647; decide), ?_⟩⟩
      · show (sd + 7919 * (c + 1)).natAbs < 2 ^ 64
        omega
      · refine ⟨_, rfl, _, rfl, a, _, _, _, rfl, rfl, .of h2, rfl, _, _, rfl, rfl, _, _, rfl, rfl, .inr ⟨(by show -(2 ^ 64) < (40692 : Int); decide), (by show (40692 : Int) < 2 ^ 64; decide)⟩, .inl ⟨_, rfl, _, _, rfl, rfl, (by show (0 : Int) < 2147483629; decide), .inl ⟨_, rfl, _, rfl, _, _, rfl, rfl, m0, ?_⟩⟩⟩
        exact k _ _ (Int.emod_nonneg _ (by omega)) (Int.emod_lt_of_pos _ m0) (Kp.refl.put) ⟨g, sd, c + 1, h2, s0, s1, by omega, by omega⟩
end
end Mf
namespace Mf
open PySem L2
section
variable {P : Program} {w : World} {K : PySem.W.Frag} {mg : Str → Option Value} {base : Heap}
abbrev psD : List Str := ["_law_source_here", "_law_many"]

/-! ### _law_name -/
def spName (K : PySem.W.Frag) : Sp := fun vs H Q _ => ∃ (a t : Addr) (taken : List Str) (n : Nat), vs = [.ref a, .ref t] ∧ Src H a (n + 10) ∧ t ≠ a ∧ SqL K H t (taken.map V.str) ∧ taken.length ≤ 16 ∧
  ∀ z H', IsName z → z ∉ taken → Kp a H H' → Src H' a n → Q (.str z) H'
abbrev sName : Stmt := top 10
theorem scName : FnScope ["_law_source_here", "_law_taken", "_law_size", "_law_name_here", "_law_k", "_law_one", "_law_letter"] ["_law_source_here", "_law_taken"] (defScope sName) := ⟨rfl, rfl, rfl, by decide +kernel, rfl, by decide +kernel, by decide +kernel⟩
def zAt (c : Nat) : Str := ("z" : Str) ++ ⟨#[c]⟩
theorem zAt_name {c : Nat} (h : Low c) : IsName (zAt c) := by
  have e : (zAt c).cps.toList = [122, c] := str_add _ _
  refine ⟨?_, ?_, ?_⟩
  · rw [← Array.length_toList, e]; exact (by decide : 1 ≤ 2)
  · rw [← Array.length_toList, e]; exact (by decide : 2 ≤ 8)
  · rw [e]; intro d hd
    rcases List.mem_cons.mp hd with rfl | hd
    · unfold Low; omega
    · rw [List.mem_singleton.mp hd]; exact h
theorem zAt_inj {c d : Nat} (h : zAt c = zAt d) : c = d := by
  have e : (zAt c).cps.toList = (zAt d).cps.toList := by rw [h]
  have e1 : (zAt c).cps.toList = [122, c] := str_add _ _
  have e2 : (zAt d).cps.toList = [122, d] := str_add _ _
  rw [e1, e2] at e
  simpa using e
theorem sizes_at {v : Int} (h0 : 0 ≤ v) (h : v < 13) : ∃ m : Nat, atI [V.int 8, .int 4, .int 5, .int 6, .int 7, .int 1, .int 2, .int 3, .int 1, .int 2, .int 3, .int 1, .int 2] v = some (.int (m : Nat)) ∧ 1 ≤ m ∧ m ≤ 8 := by
  obtain ⟨n, rfl⟩ := Int.eq_ofNat_of_zero_le h0
  have e : ∀ n : Fin 13, atI [V.int 8, .int 4, .int 5, .int 6, .int 7, .int 1, .int 2, .int 3, .int 1, .int 2, .int 3, .int 1, .int 2] ((n.val : Nat) : Int) = some (.int (([8, 4, 5, 6, 7, 1, 2, 3, 1, 2, 3, 1, 2].getD n.val 0 : Nat))) ∧ 1 ≤ ([8, 4, 5, 6, 7, 1, 2, 3, 1, 2, 3, 1, 2].getD n.val 0) ∧ ([8, 4, 5, 6, 7, 1, 2, 3, 1, 2, 3, 1, 2].getD n.val 0) ≤ 8 := by decide +kernel
  exact ⟨_, e ⟨n, by omega⟩⟩
theorem cut_q {z : Str} (h : IsName z) (h8 : z.length < 8) : IsName (("q" : Str) ++ cutS z (some 1) none) := by
  have hz : z.cps.toList.length = z.length := Array.length_toList
  have e : (("q" : Str) ++ cutS z (some 1) none).cps.toList = 113 :: (z.cps.toList.drop (HT.sIx z.length 0 (some 1))).take (HT.sIx z.length z.length none - HT.sIx z.length 0 (some 1)) := str_add _ _
  have l : (z.cps.toList.drop (HT.sIx z.length 0 (some 1))).take (HT.sIx z.length z.length none - HT.sIx z.length 0 (some 1)) ⊆ z.cps.toList := fun c hc => List.mem_of_mem_drop (List.mem_of_mem_take hc)
  have b : ((z.cps.toList.drop (HT.sIx z.length 0 (some 1))).take (HT.sIx z.length z.length none - HT.sIx z.length 0 (some 1))).length ≤ 7 := by
    rw [List.length_take, List.length_drop, hz]; omega
  refine ⟨?_, ?_, ?_⟩
  · rw [← Array.length_toList, e, List.length_cons]; omega
  · rw [← Array.length_toList, e, List.length_cons]; omega
  · rw [e]; intro c hc
    rcases List.mem_cons.mp hc with rfl | hc
    · unfold Low; omega
    · exact h.2.2 c (l hc)
theorem kinds_names : ∀ z ∈ ([("read" : Str), "call", "say", "try"] : List Str), IsName z := by decide +kernel
theorem zs_fresh {taken : List Str} (h : taken.length ≤ 16) : (("abcdefghijklmnopq" : Str).cps.toList.map zAt).filter (fun z => !decide (z ∈ taken)) ≠ [] := by
  intro e
  have sub : (("abcdefghijklmnopq" : Str).cps.toList.map zAt) ⊆ taken := fun z hz => by
    refine Classical.byContradiction fun n => ?_
    have m : z ∈ (("abcdefghijklmnopq" : Str).cps.toList.map zAt).filter (fun z => !decide (z ∈ taken)) := List.mem_filter.mpr ⟨hz, by simp [n]⟩
    rw [e] at m
    cases m
  have nd : (("abcdefghijklmnopq" : Str).cps.toList.map zAt).Nodup := by
    refine List.Pairwise.map _ (fun a b (n : a ≠ b) q => n (zAt_inj q)) ?_
    show (("abcdefghijklmnopq" : Str).cps.toList).Nodup
    decide +kernel
  have l := nodup_le nd sub
  rw [List.length_map] at l
  have : ("abcdefghijklmnopq" : Str).cps.toList.length = 17 := by decide +kernel
  omega
theorem ok_name {f : Addr} {fd : FuncData} (F : Fun K "_law_name" "_law_name" sName f fd) (c_draw : Cal P w K mg base CX0 1 "_law_draw" psD spDraw) (mRange : mg "range" = none) : FnOk P w K mg base CX0 2 f fd ["_law_source_here", "_law_taken"] (spName K) := by
  refine F.ok scName (fun vs H Q E h => ?_) (fun cdv A outer s H vs Q E hr h => ?_)
  · obtain ⟨a, t, taken, n, rfl, _⟩ := h
    rfl
  · obtain ⟨a, t, taken, n, rfl, S, ta, ht, tl, k⟩ := h
    have hr_draw : Room 1 (A.deeper (PyProof.Rows.envOfC "_law_name" (defScope sName) s.heap.objs.size f cdv)) := hr
    refine ⟨_, (pss_cons (ps_set (i := 2) scName.nd rfl (by first | exact Or.inl rfl | exact Or.inr rfl) (pe_ix (ixl K) (pe_lst (pa_cons pe_int (pa_cons pe_int (pa_cons pe_int (pa_cons pe_int (pa_cons pe_int (pa_cons pe_int (pa_cons pe_int (pa_cons pe_int (pa_cons pe_int (pa_cons pe_int (pa_cons pe_int (pa_cons pe_int (pa_cons pe_int pa_nil)))))))))))))) (pe_cal c_draw hr_draw pass0 (pa_cons (pv 0) (pa_cons pe_int pa_nil))) (fun _ _ => rfl)))
      (pss_cons (ps_set (i := 3) scName.nd rfl (by first | exact Or.inl rfl | exact Or.inr rfl) (pe_join pe_str (pe_lc (own := [("_law_k", 4)]) (g := (gName 4)) (tt := tYes) rfl scName.nd (pi_range1 (by rfl) mRange (pa_cons (pv 2) pa_nil)) (blkOk_by (own := [("_law_k", 4)]) (N := ["_law_source_here", "_law_taken", "_law_size", "_law_name_here", "_law_k", "_law_one", "_law_letter"]) (sc := defScope sName) (by decide +kernel)) (fun _ _ _ _ _ => (pg_name (i := 4) scName.nd rfl (by first | exact Or.inl rfl | exact Or.inr rfl))) (fun _ _ _ _ _ => pts_nil) (fun _ _ _ _ _ => (pe_ix ix_str pe_str (pe_cal c_draw hr_draw pass0 (pa_cons (pv 0) (pa_cons pe_int pa_nil))) (fun _ _ => rfl))))))
      (C8.pss_cut (ps_if (pt_chain op_lt op_lt pe_int (pv 2) pe_int)
        (pss_one (ps_set (i := 3) scName.nd rfl (by first | exact Or.inl rfl | exact Or.inr rfl) (pe_ix (ixl K) (pe_lst (pa_cons pe_str (pa_cons pe_str (pa_cons pe_str (pa_cons pe_str (pa_cons (pe_op op_add_str pe_str (pe_slice sl_str (pv 3) (po_some pe_int) po_none)) pa_nil)))))) (pe_cal c_draw hr_draw pass0 (pa_cons (pv 0) (pa_cons pe_int pa_nil))) (fun _ _ => rfl)))) pss_nil)
      (pss_cons (ps_if (pt_cmpR (nin K) (pv 3) (pv 1) (by rfl))
        (pss_one (ps_ret (pv 3))) pss_nil)
      (pss_one (ps_ret (pe_ix (ixl K) (pe_lc (own := [("_law_one", 5)]) (g := (gName 5)) rfl scName.nd (pi_list (pe_lc (own := [("_law_letter", 6)]) (g := (gName 6)) (tt := tYes) rfl scName.nd (pi_str pe_str) (blkOk_by (own := [("_law_letter", 6)]) (N := ["_law_source_here", "_law_taken", "_law_size", "_law_name_here", "_law_k", "_law_one", "_law_letter"]) (sc := defScope sName) (by decide +kernel)) (fun _ _ _ _ _ => (pg_name (i := 6) scName.nd rfl (by first | exact Or.inl rfl | exact Or.inr rfl))) (fun _ _ _ _ _ => pts_nil) (fun _ _ _ _ _ => (pe_op op_add_str pe_str (pv 6))))) (blkOk_by (own := [("_law_one", 5)]) (N := ["_law_source_here", "_law_taken", "_law_size", "_law_name_here", "_law_k", "_law_one", "_law_letter"]) (sc := defScope sName) (by decide +kernel)) (fun _ _ _ _ _ => (pg_name (i := 5) scName.nd rfl (by first | exact Or.inl rfl | exact Or.inr rfl))) (fun _ _ _ _ _ => pts_one (pt_cmpR (nin K) (pv 5) (pv 1) (by rfl))) (fun _ _ _ _ _ => (pv 5))) pe_int (fun _ _ => rfl)))))))), ?_⟩
    refine ⟨(by show 13 ≤ sizeLine; decide), fun l hl => ⟨_, rfl, a, 13, n + 9, rfl, by decide, by decide, S.new hl, fun v H1 v0 v1 k1 S1 => ?_⟩⟩
    obtain ⟨m, hm, m1, m8⟩ := sizes_at v0 v1
    refine ⟨l, _, v, _, rfl, rfl, .of (k1 _ _ (S.ne hl) upd_same), hm, ?_⟩
    have k1 : Kp a H H1 := (Kp.new hl).trans k1
    refine ⟨⟨_, rfl⟩, _, rfl, m, rfl, by omega, by omega, fun D hD => ?_⟩
    refine lc_range (lo := 0) (n := m) (fun i H' => ∃ cs : List Nat, cs.length = i ∧ (∀ c ∈ cs, Low c) ∧ H' D = some (.lst (cs.map fun c => V.str ⟨#[c]⟩)) ∧ Kp a H1 H' ∧ Src H' a (n + 9 - i) ∧ D ≠ a) ⟨[], rfl, (by simp), upd_same, Kp.new hD, S1.new hD, S1.ne hD⟩ ?_ ?_
    · rintro i H2 hi ⟨cs, hc, low, h2, k2, S2, Da⟩
      refine ⟨rfl, yes_then ?_⟩
      refine ⟨_, rfl, a, 26, n + 8 - i, rfl, by decide, by decide, S2.mono (by omega), fun v H3 v0 v1 k3 S3 => ?_⟩
      obtain ⟨c, hcc, lc⟩ := alpha_at v0 v1
      refine ⟨_, v, c, rfl, rfl, (by show 26 ≤ sizeLine; decide), hcc, _, k3 _ _ Da h2, (by rw [List.length_map, hc]; exact Nat.lt_of_lt_of_le (by omega : i < 9) (by decide)), cs ++ [c], by rw [List.length_append, hc]; rfl, fun d hd => ?_, ?_, ?_, ?_, Da⟩
      · rcases List.mem_append.mp hd with hd | hd
        · exact low d hd
        · rw [List.mem_singleton.mp hd]; exact lc
      · rw [upd_same, List.map_append]; rfl
      · exact (k2.trans k3).mut (H := H1) hD
      · exact (S3.put Da).mono (by omega)
    · rintro H2 ⟨cs, hc, low, h2, k2, S2, Da⟩
      have e1 : (cs.map fun c => V.str ⟨#[c]⟩) = ((cs.map fun c => (⟨#[c]⟩ : Str)).map V.str) := by rw [List.map_map]; rfl
      rw [e1] at h2
      have one : ∀ y ∈ cs.map (fun c => (⟨#[c]⟩ : Str)), y.length ≤ 1 := fun y hy => by
        obtain ⟨c, _, rfl⟩ := List.mem_map.mp hy
        exact Nat.le_refl 1
      refine ⟨_, D, _, rfl, rfl, .inl (.of h2), ?_, ?_⟩
      · have q := sum_len one
        rw [List.length_map] at q ⊢
        show _ + cs.length * 0 ≤ _
        omega
      rw [join_signs]
      have nm : IsName (⟨cs.toArray⟩ : Str) := ⟨by show 1 ≤ cs.toArray.size; simp; omega, by show cs.toArray.size ≤ 8; simp; omega, fun c hc => low c (by simpa using hc)⟩
      have sz : (⟨cs.toArray⟩ : Str).cps.size = m := by show cs.toArray.size = m; simp; omega
      generalize (⟨cs.toArray⟩ : Str) = z at nm sz
      have k2 : Kp a H H2 := k1.trans k2
      refine ⟨fun σ' H' => ∃ z, σ' = [some (.ref a), some (.ref t), some (.int (m : Nat)), some (.str z), none, none, none] ∧ IsName z ∧ Kp a H H' ∧ Src H' a n, ?_, ?_⟩
      · refine ⟨_, rfl, _, _, rfl, rfl, _, rfl, ite2 (fun h3 => ?_) fun _ => ?_⟩
        · refine ⟨_, _, rfl, rfl, _, rfl, ite2 (fun h8 => ?_) fun _ => ?_⟩
          · have m7 : (m : Int) < 8 := of_decide_eq_true h8
            refine ⟨_, rfl, _, rfl, z, rfl, Nat.le_trans nm.len (by decide), _, _, rfl, rfl, ?_, ?_⟩
            · have q := cutS_length z (some 1) none
              have q2 := nm.len
              show 1 + _ ≤ _
              exact Nat.le_trans (by omega : _ ≤ 9) (by decide)
            refine ⟨(by show 5 ≤ sizeLine; decide), fun l2 hl2 => ⟨_, rfl, a, 5, n, rfl, by decide, by decide, (S2.mono (by omega : n + 1 ≤ n + 9 - m)).new hl2, fun v H3 v0 v1 k3 S3 => ?_⟩⟩
            obtain ⟨x, hx, hat⟩ := atI_mem (xs := [V.str "read", .str "call", .str "say", .str "try", .str (("q" : Str) ++ cutS z (some 1) none)]) v0 v1
            have hx' : ∃ y, x = .str y ∧ IsName y := by
              have kk := kinds_names
              simp only [List.mem_cons, List.not_mem_nil, or_false] at hx kk
              rcases hx with rfl | rfl | rfl | rfl | rfl
              · exact ⟨_, rfl, kk _ (by simp)⟩
              · exact ⟨_, rfl, kk _ (by simp)⟩
              · exact ⟨_, rfl, kk _ (by simp)⟩
              · exact ⟨_, rfl, kk _ (by simp)⟩
              · exact ⟨_, rfl, cut_q nm (by have : z.length = z.cps.size := rfl; omega)⟩
            obtain ⟨y, rfl, ny⟩ := hx'
            exact ⟨l2, _, v, _, rfl, rfl, .of (k3 _ _ (S2.ne hl2) upd_same), hat, y, rfl, ny, (k2.trans (Kp.new hl2)).trans k3, S3⟩
          · exact ⟨z, rfl, nm, k2, S2.mono (by omega)⟩
        · exact ⟨_, rfl, iteF ⟨z, rfl, nm, k2, S2.mono (by omega)⟩⟩
      · rintro σ' H3 ⟨z, rfl, nm, k3, S3⟩
        have ht3 := k3.lst ta ht
        have fl : (taken.map V.str).all flatV = true := by rw [List.all_map]; exact List.all_eq_true.mpr fun _ _ => rfl
        refine ⟨_, rfl, _, rfl, t, _, rfl, .inl ht3, rfl, fl, _, rfl, ?_⟩
        show if (!inV (.str z) (taken.map V.str)) = true then _ else _
        rw [inV_str]
        by_cases hz : z ∈ taken
        · rw [decide_eq_true hz]
          refine iteF ?_
          refine ⟨_, rfl, fun E1 hE1 => ?_⟩
          refine lc_it walk_str (fun i H' => H' E1 = some (.lst ((("abcdefghijklmnopq" : Str).cps.toList.take i).map fun c => V.str (zAt c))) ∧ Kp a H3 H' ∧ Src H' a n) ⟨upd_same, Kp.new hE1, S3.new hE1⟩ (fun _ _ _ _ => trivial) ?_ ?_
          · rintro i x H4 _ hi ⟨h4, k4, S4⟩ ⟨rfl, c, hc, rfl⟩
            refine ⟨rfl, yes_then ?_⟩
            refine ⟨_, rfl, _, _, rfl, rfl, (by show 1 + 1 ≤ sizeLine; decide), _, h4, ?_, ?_, ?_, ?_⟩
            · rw [List.length_map]
              exact Nat.lt_of_le_of_lt (List.length_take_le _ _) (Nat.lt_of_lt_of_le (show i < 17 from hi) (by decide))
            · rw [upd_same, List.take_add_one, List.map_append]
              have e : ("abcdefghijklmnopq" : Str).cps.toList[i]? = some c := by rw [Array.getElem?_toList]; exact hc
              rw [e]; rfl
            · exact k4.mut hE1
            · exact S4.put (S3.ne hE1)
          · rintro H4 ⟨h4, k4, S4⟩
            have e17 : (("abcdefghijklmnopq" : Str).cps.toList.take ("abcdefghijklmnopq" : Str).cps.size).map (fun c => V.str (zAt c)) = (("abcdefghijklmnopq" : Str).cps.toList.map zAt).map V.str := by
              rw [List.take_of_length_le (by rw [Array.length_toList]; exact Nat.le_refl _), List.map_map]; rfl
            rw [e17] at h4
            have low : ∀ z ∈ ("abcdefghijklmnopq" : Str).cps.toList.map zAt, IsName z := fun z hz => by
              obtain ⟨c, hc, rfl⟩ := List.mem_map.mp hz
              refine zAt_name ?_
              have all : ∀ c ∈ ("abcdefghijklmnopq" : Str).cps.toList, 97 ≤ c ∧ c ≤ 122 := by decide +kernel
              exact all c hc
            have fresh := zs_fresh tl
            have len17 : (("abcdefghijklmnopq" : Str).cps.toList.map zAt).length = 17 := by decide +kernel
            generalize ("abcdefghijklmnopq" : Str).cps.toList.map zAt = zs at h4 low fresh len17
            refine ⟨E1, rfl, ⟨_, .of h4⟩, fun E2 hE2 => ?_⟩
            have n21 : E1 ≠ E2 := Ne.symm (ne_none hE2 h4)
            refine lc_it walk_list (fun i H' => H' E2 = some (.lst (((zs.take i).filter fun z => !decide (z ∈ taken)).map V.str)) ∧ Kp a H4 H' ∧ Src H' a n) ⟨upd_same, Kp.new hE2, S4.new hE2⟩ (fun i H' _ q => .of (q.2.1 _ _ (by exact ne_none hE1 (show H3 a = some _ from S3.choose_spec.choose_spec.choose_spec.1)) h4)) ?_ ?_
            · rintro i x H5 _ hi ⟨h5, k5, S5⟩ ⟨rfl, hx⟩
              rw [List.getElem?_map] at hx
              obtain ⟨y, hy, rfl⟩ := Option.map_eq_some_iff.mp hx
              have ht5 := (k4.trans k5).lst ta ht3
              have tk : zs.take (i + 1) = zs.take i ++ [y] := by rw [List.take_add_one, hy]; rfl
              refine ⟨rfl, _, rfl, _, rfl, t, _, rfl, .inl ht5, rfl, fl, _, rfl, ?_⟩
              show if (!inV (.str y) (taken.map V.str)) = true then _ else _
              rw [inV_str]
              by_cases hz : y ∈ taken
              · rw [decide_eq_true hz]
                refine iteF ⟨?_, k5, S5⟩
                rw [tk, List.filter_append, List.filter_cons_of_neg (by simp [hz]), List.filter_nil, List.append_nil]
                exact h5
              · rw [decide_eq_false hz]
                refine iteT ⟨_, rfl, _, h5, ?_, ?_, k5.mut hE2, S5.put (S4.ne hE2)⟩
                · rw [List.length_map]
                  refine Nat.lt_of_le_of_lt (Nat.le_trans (List.length_filter_le _ _) (List.length_take_le _ _)) (Nat.lt_of_lt_of_le (show i < 17 by rw [List.length_map, len17] at hi; exact hi) (by decide))
                · rw [upd_same, tk, List.filter_append, List.filter_cons_of_pos (by simp [hz]), List.filter_nil, List.map_append]
                  rfl
            · rintro H5 ⟨h5, k5, S5⟩
              rw [List.length_map, List.take_length] at h5
              have nice : ∀ z ∈ zs.filter (fun z => !decide (z ∈ taken)), IsName z ∧ z ∉ taken := fun z hz => by
                obtain ⟨m1, m2⟩ := List.mem_filter.mp hz
                exact ⟨low z m1, by simpa using m2⟩
              generalize zs.filter (fun z => !decide (z ∈ taken)) = fs at fresh nice h5
              rcases fs with _ | ⟨y, ys⟩
              · exact absurd rfl fresh
              · obtain ⟨n1, n2⟩ := nice y List.mem_cons_self
                exact ⟨E2, _, 0, .str y, rfl, rfl, .of h5, atI_nat (j := 0) rfl, k y H5 n1 n2 ((k3.trans k4).trans k5) S5⟩
        · rw [decide_eq_false hz]
          exact iteT ⟨_, rfl, k z H3 nm hz k3 S3⟩
end
end Mf
namespace Mf
open PySem L2
/-! ### the class NameSet -/
def flM (t : Addr) : List (Str × V) := putF "members" (.ref t) []
theorem flM_get (t : Addr) : (flM t).lookup ("members" : Str) = some (.ref t) := by
  unfold flM
  rw [lookup_putF, if_pos rfl]
/-- a NameSet stands at p, its members ms -/
def NSet (C : Addr) (H : Hp) (p : Addr) (ms : List Str) : Prop := ∃ dx t, H p = some (.ins C dx (flM t)) ∧ H t = some (.tup (ms.map V.str)) ∧ Up ms ∧ ms.length < 4000 ∧ ∀ z ∈ ms, PyData.strOk z = true
theorem NSet.same {C : Addr} {H H' : Hp} {p : Addr} {ms : List Str} (h : NSet C H p ms) (s : Same H H') : NSet C H' p ms := let ⟨dx, t, a, b, c⟩ := h; ⟨dx, t, s _ _ a, s _ _ b, c⟩
theorem NSet.kp {C a : Addr} {H H' : Hp} {p : Addr} {ms : List Str} {n : Nat} (h : NSet C H p ms) (s : Kp a H H') (S : Src H a n) : NSet C H' p ms :=
  let ⟨dx, t, x, y, c⟩ := h
  let ⟨_, _, _, e, _⟩ := S
  ⟨dx, t, s _ _ (ne_of x e (by intro z; cases z)) x, s _ _ (ne_of y e (by intro z; cases z)) y, c⟩
structure NsC (K : PySem.W.Frag) (mg : Str → Option Value) (C : Addr) : Prop where
  ins : C8.InsC K C
  nM : NoAttr K C "members"
  mgC : mg "NameSet" = some (.ref C)
  kL : PySem.W.kitOne K (.type "list") (.ref C) = some false
  kT : PySem.W.kitOne K (.type "tuple") (.ref C) = some false
  bT : PySem.W.notFirst K C (.type "tuple") = true
  bL : PySem.W.notFirst K C (.type "list") = true
  mIsi : mg "isinstance" = none
  mTuple : mg "tuple" = none
  mSorted : mg "sorted" = none
  mSet : mg "set" = none
  mAll : mg "all" = none
  mLen : mg "len" = none
/-- what NameSet(..) takes -/
inductive ArgS (K : PySem.W.Frag) (C : Addr) (H : Hp) : V → List Str → Prop
  | lst {a : Addr} {xs : List Str} (e : H a = some (.lst (xs.map V.str))) : ArgS K C H (.ref a) xs
  | tup {a : Addr} {xs : List Str} (e : H a = some (.tup (xs.map V.str))) : ArgS K C H (.ref a) xs
  | emp {a : Addr} {o : Obj} (e : K.lookup a = some o) (c : o.cls = .type "tuple") (s : ∀ H, SqT K H a []) : ArgS K C H (.ref a) []
  | own {a : Addr} {xs : List Str} (e : NSet C H a xs) : ArgS K C H (.ref a) xs
section
variable {P : Program} {w : World} {K : PySem.W.Frag} {mg : Str → Option Value} {base : Heap} {C : Addr}
theorem NsC.isi {H : Hp} {p : Addr} {dx : Addr} {fs : List (Str × V)} (T : NsC K mg C) (h : H p = some (.ins C dx fs)) : TyX K H (.ref p) (.ref C) := .base (.ins h T.ins.cl T.ins.ha T.ins.hn T.ins.htk T.ins.hm)

def spNsInit (K : PySem.W.Frag) (C : Addr) : Sp := fun vs H Q _ => ∃ (p dx : Addr) (x : V) (xs : List Str), vs = [.ref p, x] ∧ H p = some (.ins C dx []) ∧ ArgS K C H x xs ∧ xs.length < 4000 ∧
  ∀ t ms H', Up ms → (∀ z, z ∈ ms ↔ z ∈ xs) → H' p = some (.ins C dx (flM t)) → H' t = some (.tup (ms.map V.str)) → (∀ b o, b ≠ p → H b = some o → H' b = some o) → Q .non H'
abbrev sNameSetInit : Stmt := inClass (top 1) 0
theorem scNameSetInit : FnScope ["self", "names"] ["self", "names"] (defScope sNameSetInit) := ⟨rfl, rfl, rfl, by decide +kernel, rfl, by decide +kernel, by decide +kernel⟩
theorem ok_nsInit {f : Addr} {fd : FuncData} {dvs : List V} {kws : List (Str × V)} {ar : Arguments} (F : FunD K "__init__" "NameSet.__init__" ar (defBody sNameSetInit) (defScope sNameSetInit) dvs kws f fd) (T : NsC K mg C) : FnOk P w K mg base CX0 1 f fd ["self", "names"] (spNsInit K C) := by
  refine F.ok scNameSetInit (fun vs H Q E h => ?_) (fun cdv A outer s H vs Q E hr h => ?_)
  · obtain ⟨p, dx, x, xs, rfl, _⟩ := h
    rfl
  · obtain ⟨p, dx, x, xs, rfl, hp, ax, few, k⟩ := h
    have mIsi := T.mIsi; have mg_NameSet := T.mgC; have mTuple := T.mTuple; have mSorted := T.mSorted; have mSet := T.mSet
    refine ⟨_, (C8.pss_cut (ps_if (pt_val (pe_callB (k_isi K) (by rfl) mIsi (by decide +kernel) (pa_cons (pv 1) (pa_cons (pe_glob (v := .ref _) rfl mg_NameSet rfl) pa_nil))))
        (pss_one (ps_set (i := 1) scNameSetInit.nd rfl (by first | exact Or.inl rfl | exact Or.inr rfl) (fldK K (pv 1)))) pss_nil)
      (pss_one (ps_fld (pv 0) (pe_callTy (k_tuple K) (by rfl) mTuple (by decide +kernel) (pa_cons (pe_callB (cr_sortedX rfl) (by rfl) mSorted (by decide +kernel) (pa_cons (pe_callTy (cr_setS rfl) (by rfl) mSet (by decide +kernel) (pa_cons (pv 1) pa_nil)) pa_nil)) pa_nil)) rfl))), ?_⟩
    refine ⟨fun σ' H' => H' = H ∧ ∃ c, σ' = [some (.ref p), some (.ref c)] ∧ (SqL K H c (xs.map V.str) ∨ SqT K H c (xs.map V.str)), ?_, ?_⟩
    · cases ax with
      | lst e => exact ⟨_, rfl, _, _, _, _, false, rfl, .own C, .base (.lst e), T.kL, _, rfl, iteF ⟨rfl, _, rfl, .inl (.of e)⟩⟩
      | tup e => exact ⟨_, rfl, _, _, _, _, false, rfl, .own C, .base (.tup e), T.kT, _, rfl, iteF ⟨rfl, _, rfl, .inr (.of e)⟩⟩
      | emp e c s => exact ⟨_, rfl, _, _, _, _, false, rfl, .own C, .kTuple e c, T.kT, _, rfl, iteF ⟨rfl, _, rfl, .inr (s H)⟩⟩
      | own e =>
        obtain ⟨dy, t, h1, h2, _⟩ := e
        exact ⟨_, rfl, _, _, _, _, true, rfl, .own C, T.isi h1, T.ins.me, _, rfl, iteT ⟨_, rfl, _, C, dy, _, _, rfl, h1, T.ins.cl, T.nM, flM_get t, rfl, t, rfl, .inr (.of h2)⟩⟩
    · rintro σ' H' ⟨rfl, c, rfl, hc⟩
      refine ⟨_, rfl, c, xs, rfl, hc, few, fun q l nq nd m => ?_⟩
      refine ⟨q, l, rfl, upd_same, fun ys r so m2 len nr => ?_⟩
      refine ⟨r, _, rfl, .inl ⟨.of upd_same, fun t nt => ?_⟩⟩
      have up : Up ys := up_of so (nodup_len nd (fun z hz => (m2 z).mpr hz) len)
      have h1 : Same H' (upd (upd (upd H' q (.ext fun h => TxR P w h q l)) r (.lst (ys.map V.str))) t (.tup (ys.map V.str))) := ((Same.new nq).trans (Same.new nr)).trans (Same.new nt)
      have ht : t ≠ p := ne_none nt ((Same.new nr) _ _ ((Same.new nq) _ _ hp))
      refine ⟨_, rfl, p, C, dx, [], rfl, h1 _ _ hp, T.ins.cl, T.nM, (by show 0 < 1000; decide), ?_⟩
      refine k t ys _ up (fun z => (m2 z).trans (m z)) upd_same (by rw [upd_ne ht, upd_same]) fun b o nb e => ?_
      rw [upd_ne nb]
      exact h1 _ _ e
theorem ArgS.same {H H' : Hp} {x : V} {xs : List Str} (h : ArgS K C H x xs) (s : Same H H') : ArgS K C H' x xs := by
  cases h with
  | lst e => exact .lst (s _ _ e)
  | tup e => exact .tup (s _ _ e)
  | emp e c q => exact .emp e c q
  | own e => exact .own (e.same s)
/-- NameSet(x): a new one -/
theorem make_ns {H : Hp} {x : V} {xs : List Str} {Q : VK} {E : XK} (ax : ArgS K C H x xs) (few : xs.length < 4000) (ok : ∀ z ∈ xs, PyData.strOk z = true)
    (k : ∀ p ms H', NSet C H' p ms → (∀ z, z ∈ ms ↔ z ∈ xs) → H p = none → Same H H' → Q (.ref p) H') :
    ∀ p dx, H p = none → H dx = none → dx ≠ p → spNsInit K C [.ref p, x] (upd (upd H dx (.own p)) p (.ins C dx [])) (fun v H2 => v = .non ∧ Q (.ref p) H2) E := by
  intro p dx hp hd ne
  have s1 : Same H (upd (upd H dx (.own p)) p (.ins C dx [])) := Same.mut (Same.new hd) hp
  refine ⟨p, dx, x, xs, rfl, upd_same, ax.same s1, few, fun t ms H' up m h1 h2 kp => ⟨rfl, k p ms H' ⟨dx, t, h1, h2, up, ?_, fun z hz => ok z ((m z).mp hz)⟩ m hp fun b o e => kp b o (ne_of_none e hp) (s1 _ _ e)⟩⟩
  exact Nat.lt_of_le_of_lt (nodup_le up.nd fun z hz => (m z).mp hz) few
theorem ns_grow {H : Hp} {p dx : Addr} (hp : H p = none) (hd : H dx = none) : Same H (upd (upd H dx (.own p)) p (.ins C dx [])) := Same.mut (Same.new hd) hp
theorem ns_after {H H' : Hp} {p dx t : Addr} {xs ms : List Str} (few : xs.length < 4000) (ok : ∀ z ∈ xs, PyData.strOk z = true) (hp : H p = none) (hd : H dx = none) (up : Up ms) (m : ∀ z, z ∈ ms ↔ z ∈ xs)
    (h1 : H' p = some (.ins C dx (flM t))) (h2 : H' t = some (.tup (ms.map V.str))) (kp : ∀ b o, b ≠ p → (upd (upd H dx (.own p)) p (.ins C dx [])) b = some o → H' b = some o) : NSet C H' p ms ∧ Same H H' :=
  ⟨⟨dx, t, h1, h2, up, Nat.lt_of_le_of_lt (nodup_le up.nd fun z hz => (m z).mp hz) few, fun z hz => ok z ((m z).mp hz)⟩, fun b o e => kp b o (ne_of_none e hp) ((ns_grow hp hd) b o e)⟩
end
end Mf
namespace Mf
open PySem L2
section
variable {P : Program} {w : World} {K : PySem.W.Frag} {mg : Str → Option Value} {base : Heap} {C : Addr}
abbrev psSO : List Str := ["self", "other"]
/-- what stands on the right of an == -/
def Oth (K : PySem.W.Frag) (C : Addr) (H : Hp) (y : V) (ms : List Str) (b : Bool) : Prop := (∃ q ns, y = .ref q ∧ NSet C H q ns ∧ b = decide (ms = ns)) ∨ ∃ t, TyX K H y t ∧ PySem.W.kitOne K t (.ref C) = some false ∧ b = false
def spNsEq (K : PySem.W.Frag) (C : Addr) : Sp := fun vs H Q _ => ∃ (p : Addr) (ms : List Str) (y : V) (b : Bool), vs = [.ref p, y] ∧ NSet C H p ms ∧ Oth K C H y ms b ∧ Q (.bl b) H
abbrev sNameSetEq : Stmt := inClass (top 1) 1
theorem scNameSetEq : FnScope ["self", "other"] ["self", "other"] (defScope sNameSetEq) := ⟨rfl, rfl, rfl, by decide +kernel, rfl, by decide +kernel, by decide +kernel⟩
theorem ok_nsEq {f : Addr} {fd : FuncData} (F : Fun K "__eq__" "NameSet.__eq__" sNameSetEq f fd) (T : NsC K mg C) : FnOk P w K mg base CX0 1 f fd psSO (spNsEq K C) := by
  refine F.ok scNameSetEq (fun vs H Q E h => ?_) (fun cdv A outer s H vs Q E hr h => ?_)
  · obtain ⟨p, ms, y, b, rfl, _⟩ := h
    rfl
  · obtain ⟨p, ms, y, b, rfl, hN, ho, k⟩ := h
    have mIsi := T.mIsi; have mg_NameSet := T.mgC
    refine ⟨_, (pss_one (ps_ret (pe_and (pe_callB (k_isi K) (by rfl) mIsi (by decide +kernel) (pa_cons (pv 1) (pa_cons (pe_glob (v := .ref _) rfl mg_NameSet rfl) pa_nil))) (pe_one (pe_cmpR (eqD K hr) (fldK K (pv 0)) (fldK K (pv 1)) (nomark _)))))), ?_⟩
    obtain ⟨dx, t, h1, h2, up, few, ok⟩ := hN
    rcases ho with ⟨q, ns, rfl, ⟨dy, u, g1, g2, up2, few2, ok2⟩, rfl⟩ | ⟨ty, hy, e, rfl⟩
    · refine ⟨_, rfl, _, _, _, _, true, rfl, .own C, T.isi g1, T.ins.me, _, rfl, iteT ⟨_, rfl, p, C, dx, _, _, rfl, h1, T.ins.cl, T.nM, flM_get t, _, rfl, q, C, dy, _, _, rfl, g1, T.ins.cl, T.nM, flM_get u, ?_⟩⟩
      refine ⟨_, _, .tup (.of h2) (dpS ms), .tup (.of g2) (dpS ns), shT ok, shT ok2, ?_⟩
      show Q (.bl (PyData.eqvAll _ _)) H
      rw [eqvS]
      exact k
    · exact ⟨_, rfl, _, _, _, _, false, rfl, .own C, hy, e, _, rfl, iteF k⟩

def spNsLe (C : Addr) : Sp := fun vs H Q _ => ∃ (p q : Addr) (ms ns : List Str), vs = [.ref p, .ref q] ∧ NSet C H p ms ∧ NSet C H q ns ∧ ∀ H', Same H H' → Q (.bl (ms.all fun z => decide (z ∈ ns))) H'
abbrev sNameSetLe : Stmt := inClass (top 1) 2
theorem scNameSetLe : FnScope ["self", "other", "name"] ["self", "other"] (defScope sNameSetLe) := ⟨rfl, rfl, rfl, by decide +kernel, rfl, by decide +kernel, by decide +kernel⟩
theorem ok_nsLe {f : Addr} {fd : FuncData} (F : Fun K "__le__" "NameSet.__le__" sNameSetLe f fd) (T : NsC K mg C) : FnOk P w K mg base CX0 1 f fd psSO (spNsLe C) := by
  refine F.ok scNameSetLe (fun vs H Q E h => ?_) (fun cdv A outer s H vs Q E hr h => ?_)
  · obtain ⟨p, q, ms, ns, rfl, _⟩ := h
    rfl
  · obtain ⟨p, q, ms, ns, rfl, ⟨dx, t, h1, h2, up, few, ok⟩, ⟨dy, u, g1, g2, up2, few2, ok2⟩, k⟩ := h
    have mAll := T.mAll
    refine ⟨_, (pss_one (ps_ret (pe_callB (k_all K) (by rfl) mAll (by decide +kernel) (pa_cons (pe_lc (own := [("name", 2)]) (g := (gName 2)) (tt := tYes) rfl scNameSetLe.nd (pi_tup (fldK K (pv 0))) (blkOk_by (own := [("name", 2)]) (N := ["self", "other", "name"]) (sc := defScope sNameSetLe) (by decide +kernel)) (fun _ _ _ _ _ => (pg_name (i := 2) scNameSetLe.nd rfl (by first | exact Or.inl rfl | exact Or.inr rfl))) (fun _ _ _ _ _ => pts_nil) (fun _ _ _ _ _ => (pe_cmpR (oin K) (pv 2) (fldK K (pv 1)) (by rfl)))) pa_nil)))), ?_⟩
    refine ⟨_, rfl, p, C, dx, _, _, rfl, h1, T.ins.cl, T.nM, flM_get t, t, rfl, ⟨_, .of h2⟩, fun D hD => ?_⟩
    refine lc_it walk_tup (fun i H' => Same H H' ∧ H' D = some (.lst ((ms.take i).map fun z => V.bl (decide (z ∈ ns))))) ⟨Same.new hD, upd_same⟩ (fun i H' _ q => q.1.tup (.of h2)) ?_ ?_
    · rintro i x H1 _ hi ⟨s1, h3⟩ ⟨rfl, hx⟩
      rw [List.getElem?_map] at hx
      obtain ⟨z, hz, rfl⟩ := Option.map_eq_some_iff.mp hx
      rw [List.length_map] at hi
      refine ⟨rfl, yes_then ?_⟩
      refine ⟨_, rfl, _, rfl, q, C, dy, _, _, rfl, s1 _ _ g1, T.ins.cl, T.nM, flM_get u, u, _, rfl, .inr (.of (s1 _ _ g2)), rfl, flat_strs ns, _, h3, ?_, s1.mut hD, ?_⟩
      · rw [List.length_map]
        exact Nat.lt_of_le_of_lt (List.length_take_le _ _) (Nat.lt_of_lt_of_le (by omega : i < 4000) (by decide))
      · rw [upd_same, List.take_add_one, hz]
        show some (HO.lst (_ ++ [V.bl (inV (.str z) (ns.map V.str))])) = _
        rw [inV_str, List.map_append]
        rfl
    · rintro H1 ⟨s1, h3⟩
      have e : ((ms.take (ms.map V.str).length).map fun z => V.bl (decide (z ∈ ns))) = (ms.map fun z => decide (z ∈ ns)).map V.bl := by rw [List.length_map, List.take_length, List.map_map]; rfl
      rw [e] at h3
      refine ⟨D, _, rfl, .of h3, ?_⟩
      rw [List.all_map]
      exact k H1 s1
end
end Mf
namespace Mf
open PySem L2
section
variable {P : Program} {w : World} {K : PySem.W.Frag} {mg : Str → Option Value} {base : Heap} {C : Addr}
def spNsLt (C : Addr) : Sp := fun vs H Q _ => ∃ (p q : Addr) (ms ns : List Str), vs = [.ref p, .ref q] ∧ NSet C H p ms ∧ NSet C H q ns ∧ ∀ H', Same H H' → Q (.bl ((ms.all fun z => decide (z ∈ ns)) && !decide (ms = ns))) H'
abbrev sNameSetLt : Stmt := inClass (top 1) 3
theorem scNameSetLt : FnScope ["self", "other"] ["self", "other"] (defScope sNameSetLt) := ⟨rfl, rfl, rfl, by decide +kernel, rfl, by decide +kernel, by decide +kernel⟩
theorem ok_nsLt {f : Addr} {fd : FuncData} (F : Fun K "__lt__" "NameSet.__lt__" sNameSetLt f fd) (T : NsC K mg C) (m_le : CalM P w K mg base CX0 1 C "__le__" psSO (spNsLe C)) : FnOk P w K mg base CX0 2 f fd psSO (spNsLt C) := by
  refine F.ok scNameSetLt (fun vs H Q E h => ?_) (fun cdv A outer s H vs Q E hr h => ?_)
  · obtain ⟨p, q, ms, ns, rfl, _⟩ := h
    rfl
  · obtain ⟨p, q, ms, ns, rfl, hN, hN2, k⟩ := h
    refine ⟨_, (pss_one (ps_ret (pe_and (pe_cmpR (om_cmp (op := .LtE) K m_le hr pass0) (pv 0) (pv 1) (nomark _)) (pe_one (pe_cmpR (neD K hr) (fldK K (pv 0)) (fldK K (pv 1)) (nomark _)))))), ?_⟩
    have hNs := hN; have hNs2 := hN2
    obtain ⟨dx, t, h1, h2, up, few, ok⟩ := hN
    obtain ⟨dy, u, g1, g2, up2, few2, ok2⟩ := hN2
    refine ⟨_, rfl, _, rfl, p, dx, _, rfl, h1, ⟨.ref C, T.isi g1, by simp [PySem.W.notFirst]⟩, p, q, ms, ns, rfl, hNs, hNs2, fun H1 s1 => ⟨_, rfl, ?_⟩⟩
    by_cases c : (ms.all fun z => decide (z ∈ ns)) = true
    · rw [c]
      refine iteT ⟨_, rfl, p, C, dx, _, _, rfl, s1 _ _ h1, T.ins.cl, T.nM, flM_get t, _, rfl, q, C, dy, _, _, rfl, s1 _ _ g1, T.ins.cl, T.nM, flM_get u, ?_⟩
      refine ⟨_, _, .tup (.of (s1 _ _ h2)) (dpS ms), .tup (.of (s1 _ _ g2)) (dpS ns), shT ok, shT ok2, ?_⟩
      show Q (.bl (!PyData.eqvAll _ _)) H1
      rw [eqvS]
      have q := k H1 s1
      rw [c] at q
      exact q
    · have c := Bool.eq_false_iff.mpr c
      rw [c]
      refine iteF ?_
      have q := k H1 s1
      rw [c] at q
      exact q

abbrev CalN (P : Program) (w : World) (K : PySem.W.Frag) (mg : Str → Option Value) (base : Heap) (C : Addr) (dvs : List V) : Prop := CalC P w K mg base CX0 1 "NameSet" C ["self", "names"] (spNsInit K C) dvs
/-- what an operator that makes a set gives -/
def spNsOp (C : Addr) (g : List Str → List Str → Str → Prop) : Sp := fun vs H Q _ => ∃ (p q : Addr) (ms ns : List Str), vs = [.ref p, .ref q] ∧ NSet C H p ms ∧ NSet C H q ns ∧ ms.length + ns.length < 4000 ∧ ∀ r rs H', NSet C H' r rs → (∀ z, z ∈ rs ↔ g ms ns z) → Same H H' → Q (.ref r) H'
abbrev gOr : List Str → List Str → Str → Prop := fun ms ns z => z ∈ ms ∨ z ∈ ns
abbrev gAnd : List Str → List Str → Str → Prop := fun ms ns z => z ∈ ms ∧ z ∈ ns
abbrev gSub : List Str → List Str → Str → Prop := fun ms ns z => z ∈ ms ∧ z ∉ ns
abbrev sNameSetOr : Stmt := inClass (top 1) 4
theorem scNameSetOr : FnScope ["self", "other"] ["self", "other"] (defScope sNameSetOr) := ⟨rfl, rfl, rfl, by decide +kernel, rfl, by decide +kernel, by decide +kernel⟩
theorem ok_nsOr {f : Addr} {fd : FuncData} (F : Fun K "__or__" "NameSet.__or__" sNameSetOr f fd) (T : NsC K mg C) (mk : CalN P w K mg base C []) : FnOk P w K mg base CX0 3 f fd psSO (spNsOp C gOr) := by
  refine F.ok scNameSetOr (fun vs H Q E h => ?_) (fun cdv A outer s H vs Q E hr h => ?_)
  · obtain ⟨p, q, ms, ns, rfl, _⟩ := h
    rfl
  · obtain ⟨p, q, ms, ns, rfl, ⟨dx, t, h1, h2, up, few, ok⟩, ⟨dy, u, g1, g2, up2, few2, ok2⟩, fw, k⟩ := h
    refine ⟨_, (pss_one (ps_ret (pe_mkc mk hr pass0 (pa_cons (pe_op op_catA (fldK K (pv 0)) (fldK K (pv 1))) pa_nil)))), ?_⟩
    have two : ∀ z ∈ ms ++ ns, PyData.strOk z = true := fun z hz => (List.mem_append.mp hz).elim (ok z) (ok2 z)
    refine ⟨_, rfl, p, C, dx, _, _, rfl, h1, T.ins.cl, T.nM, flM_get t, _, rfl, q, C, dy, _, _, rfl, g1, T.ins.cl, T.nM, flM_get u, ?_⟩
    refine ⟨t, u, ms.map V.str, ns.map V.str, rfl, rfl, .of h2, .of g2, ?_⟩
    have few3 : (ms ++ ns).length < 4000 := by rw [List.length_append]; exact fw
    refine ⟨Nat.le_trans (by rw [List.length_map, List.length_map]; omega : _ ≤ 4000) (by decide), fun e => ?_, fun e e2 => ?_, fun e e2 r nr => ?_⟩
    · obtain rfl := List.map_eq_nil_iff.mp e
      refine make_ns (.tup g2) few2 ok2 fun r rs H' n m _ s => k r rs H' n (fun z => ?_) s
      rw [m z]; simp
    · obtain rfl := List.map_eq_nil_iff.mp e2
      refine make_ns (.tup h2) few ok fun r rs H' n m _ s => k r rs H' n (fun z => ?_) s
      rw [m z]; simp
    · rw [← List.map_append]
      refine make_ns (.tup upd_same) few3 two fun r2 rs H' n m _ s => k r2 rs H' n (fun z => ?_) ((Same.new nr).trans s)
      rw [m z, List.mem_append]

abbrev sNameSetAnd : Stmt := inClass (top 1) 5
theorem scNameSetAnd : FnScope ["self", "other", "name"] ["self", "other"] (defScope sNameSetAnd) := ⟨rfl, rfl, rfl, by decide +kernel, rfl, by decide +kernel, by decide +kernel⟩
theorem ok_nsAnd {f : Addr} {fd : FuncData} (F : Fun K "__and__" "NameSet.__and__" sNameSetAnd f fd) (T : NsC K mg C) (mk : CalN P w K mg base C []) : FnOk P w K mg base CX0 3 f fd psSO (spNsOp C gAnd) := by
  refine F.ok scNameSetAnd (fun vs H Q E h => ?_) (fun cdv A outer s H vs Q E hr h => ?_)
  · obtain ⟨p, q, ms, ns, rfl, _⟩ := h
    rfl
  · obtain ⟨p, q, ms, ns, rfl, ⟨dx, t, h1, h2, up, few, ok⟩, ⟨dy, u, g1, g2, up2, few2, ok2⟩, fw, k⟩ := h
    refine ⟨_, (pss_one (ps_ret (pe_mkc mk hr pass0 (pa_cons (pe_lc (own := [("name", 2)]) (g := (gName 2)) rfl scNameSetAnd.nd (pi_tup (fldK K (pv 0))) (blkOk_by (own := [("name", 2)]) (N := ["self", "other", "name"]) (sc := defScope sNameSetAnd) (by decide +kernel)) (fun _ _ _ _ _ => (pg_name (i := 2) scNameSetAnd.nd rfl (by first | exact Or.inl rfl | exact Or.inr rfl))) (fun _ _ _ _ _ => pts_one (pt_cmpR (oin K) (pv 2) (fldK K (pv 1)) (by rfl))) (fun _ _ _ _ _ => (pv 2))) pa_nil)))), ?_⟩
    refine ⟨_, rfl, p, C, dx, _, _, rfl, h1, T.ins.cl, T.nM, flM_get t, t, rfl, ⟨_, .of h2⟩, fun D hD => ?_⟩
    refine lc_it walk_tup (fun i H' => Same H H' ∧ H' D = some (.lst (((ms.take i).filter fun z => decide (z ∈ ns)).map V.str))) ⟨Same.new hD, upd_same⟩ (fun i H' _ q => q.1.tup (.of h2)) ?_ ?_
    · rintro i x H1 _ hi ⟨s1, h3⟩ ⟨rfl, hx⟩
      rw [List.getElem?_map] at hx
      obtain ⟨z, hz, rfl⟩ := Option.map_eq_some_iff.mp hx
      rw [List.length_map] at hi
      have tk : ms.take (i + 1) = ms.take i ++ [z] := by rw [List.take_add_one, hz]; rfl
      refine ⟨rfl, _, rfl, _, rfl, q, C, dy, _, _, rfl, s1 _ _ g1, T.ins.cl, T.nM, flM_get u, u, _, rfl, .inr (.of (s1 _ _ g2)), rfl, flat_strs ns, _, rfl, ?_⟩
      show if (inV (.str z) (ns.map V.str)) = true then _ else _
      rw [inV_str]
      by_cases c : z ∈ ns
      · rw [decide_eq_true c]
        refine iteT ⟨_, rfl, _, h3, ?_, s1.mut hD, ?_⟩
        · rw [List.length_map]
          exact Nat.lt_of_le_of_lt (Nat.le_trans (List.length_filter_le _ _) (List.length_take_le _ _)) (Nat.lt_of_lt_of_le (by omega : i < 4000) (by decide))
        · rw [upd_same, tk, List.filter_append, List.filter_cons_of_pos (by simp [c]), List.filter_nil, List.map_append]
          rfl
      · rw [decide_eq_false c]
        refine iteF ⟨s1, ?_⟩
        rw [tk, List.filter_append, List.filter_cons_of_neg (by simp [c]), List.filter_nil, List.append_nil]
        exact h3
    · rintro H1 ⟨s1, h3⟩
      rw [List.length_map, List.take_length] at h3
      refine make_ns (.lst h3) (Nat.lt_of_le_of_lt (List.length_filter_le _ _) few) (fun z hz => ok z (List.mem_filter.mp hz).1) fun r rs H' n m _ s => k r rs H' n (fun z => ?_) (s1.trans s)
      rw [m z, List.mem_filter]
      simp

abbrev sNameSetSub : Stmt := inClass (top 1) 6
theorem scNameSetSub : FnScope ["self", "other", "name"] ["self", "other"] (defScope sNameSetSub) := ⟨rfl, rfl, rfl, by decide +kernel, rfl, by decide +kernel, by decide +kernel⟩
theorem ok_nsSub {f : Addr} {fd : FuncData} (F : Fun K "__sub__" "NameSet.__sub__" sNameSetSub f fd) (T : NsC K mg C) (mk : CalN P w K mg base C []) : FnOk P w K mg base CX0 3 f fd psSO (spNsOp C gSub) := by
  refine F.ok scNameSetSub (fun vs H Q E h => ?_) (fun cdv A outer s H vs Q E hr h => ?_)
  · obtain ⟨p, q, ms, ns, rfl, _⟩ := h
    rfl
  · obtain ⟨p, q, ms, ns, rfl, ⟨dx, t, h1, h2, up, few, ok⟩, ⟨dy, u, g1, g2, up2, few2, ok2⟩, fw, k⟩ := h
    refine ⟨_, (pss_one (ps_ret (pe_mkc mk hr pass0 (pa_cons (pe_lc (own := [("name", 2)]) (g := (gName 2)) rfl scNameSetSub.nd (pi_tup (fldK K (pv 0))) (blkOk_by (own := [("name", 2)]) (N := ["self", "other", "name"]) (sc := defScope sNameSetSub) (by decide +kernel)) (fun _ _ _ _ _ => (pg_name (i := 2) scNameSetSub.nd rfl (by first | exact Or.inl rfl | exact Or.inr rfl))) (fun _ _ _ _ _ => pts_one (pt_cmpR (nin K) (pv 2) (fldK K (pv 1)) (by rfl))) (fun _ _ _ _ _ => (pv 2))) pa_nil)))), ?_⟩
    refine ⟨_, rfl, p, C, dx, _, _, rfl, h1, T.ins.cl, T.nM, flM_get t, t, rfl, ⟨_, .of h2⟩, fun D hD => ?_⟩
    refine lc_it walk_tup (fun i H' => Same H H' ∧ H' D = some (.lst (((ms.take i).filter fun z => !decide (z ∈ ns)).map V.str))) ⟨Same.new hD, upd_same⟩ (fun i H' _ q => q.1.tup (.of h2)) ?_ ?_
    · rintro i x H1 _ hi ⟨s1, h3⟩ ⟨rfl, hx⟩
      rw [List.getElem?_map] at hx
      obtain ⟨z, hz, rfl⟩ := Option.map_eq_some_iff.mp hx
      rw [List.length_map] at hi
      have tk : ms.take (i + 1) = ms.take i ++ [z] := by rw [List.take_add_one, hz]; rfl
      refine ⟨rfl, _, rfl, _, rfl, q, C, dy, _, _, rfl, s1 _ _ g1, T.ins.cl, T.nM, flM_get u, u, _, rfl, .inr (.of (s1 _ _ g2)), rfl, flat_strs ns, _, rfl, ?_⟩
      show if (!inV (.str z) (ns.map V.str)) = true then _ else _
      rw [inV_str]
      by_cases c : z ∈ ns
      · rw [decide_eq_true c]
        refine iteF ⟨s1, ?_⟩
        rw [tk, List.filter_append, List.filter_cons_of_neg (by simp [c]), List.filter_nil, List.append_nil]
        exact h3
      · rw [decide_eq_false c]
        refine iteT ⟨_, rfl, _, h3, ?_, s1.mut hD, ?_⟩
        · rw [List.length_map]
          exact Nat.lt_of_le_of_lt (Nat.le_trans (List.length_filter_le _ _) (List.length_take_le _ _)) (Nat.lt_of_lt_of_le (by omega : i < 4000) (by decide))
        · rw [upd_same, tk, List.filter_append, List.filter_cons_of_pos (by simp [c]), List.filter_nil, List.map_append]
          rfl
    · rintro H1 ⟨s1, h3⟩
      rw [List.length_map, List.take_length] at h3
      refine make_ns (.lst h3) (Nat.lt_of_le_of_lt (List.length_filter_le _ _) few) (fun z hz => ok z (List.mem_filter.mp hz).1) fun r rs H' n m _ s => k r rs H' n (fun z => ?_) (s1.trans s)
      rw [m z, List.mem_filter]
      simp

def spNsIn (C : Addr) : Sp := fun vs H Q _ => ∃ (p : Addr) (ms : List Str) (z : Str), vs = [.ref p, .str z] ∧ NSet C H p ms ∧ Q (.bl (decide (z ∈ ms))) H
abbrev sNameSetContains : Stmt := inClass (top 1) 7
theorem scNameSetContains : FnScope ["self", "name"] ["self", "name"] (defScope sNameSetContains) := ⟨rfl, rfl, rfl, by decide +kernel, rfl, by decide +kernel, by decide +kernel⟩
theorem ok_nsIn {f : Addr} {fd : FuncData} (F : Fun K "__contains__" "NameSet.__contains__" sNameSetContains f fd) (T : NsC K mg C) : FnOk P w K mg base CX0 1 f fd ["self", "name"] (spNsIn C) := by
  refine F.ok scNameSetContains (fun vs H Q E h => ?_) (fun cdv A outer s H vs Q E hr h => ?_)
  · obtain ⟨p, ms, z, rfl, _⟩ := h
    rfl
  · obtain ⟨p, ms, z, rfl, ⟨dx, t, h1, h2, up, few, ok⟩, k⟩ := h
    refine ⟨_, (pss_one (ps_ret (pe_cmpR (oin K) (pv 1) (fldK K (pv 0)) (by rfl)))), ?_⟩
    refine ⟨_, rfl, _, rfl, p, C, dx, _, _, rfl, h1, T.ins.cl, T.nM, flM_get t, t, _, rfl, .inr (.of h2), rfl, flat_strs ms, ?_⟩
    show Q (.bl (inV (.str z) (ms.map V.str))) H
    rw [inV_str]
    exact k
def spNsLen (C : Addr) : Sp := fun vs H Q _ => ∃ (p : Addr) (ms : List Str), vs = [.ref p] ∧ NSet C H p ms ∧ Q (.int (ms.length : Nat)) H
abbrev sNameSetLen : Stmt := inClass (top 1) 8
theorem scNameSetLen : FnScope ["self"] ["self"] (defScope sNameSetLen) := ⟨rfl, rfl, rfl, by decide +kernel, rfl, by decide +kernel, by decide +kernel⟩
theorem ok_nsLen {f : Addr} {fd : FuncData} (F : Fun K "__len__" "NameSet.__len__" sNameSetLen f fd) (T : NsC K mg C) : FnOk P w K mg base CX0 1 f fd ["self"] (spNsLen C) := by
  refine F.ok scNameSetLen (fun vs H Q E h => ?_) (fun cdv A outer s H vs Q E hr h => ?_)
  · obtain ⟨p, ms, rfl, _⟩ := h
    rfl
  · obtain ⟨p, ms, rfl, ⟨dx, t, h1, h2, up, few, ok⟩, k⟩ := h
    have mLen := T.mLen
    refine ⟨_, (pss_one (ps_ret (pe_callB (k_len K) (by rfl) mLen (by decide +kernel) (pa_cons (fldK K (pv 0)) pa_nil)))), ?_⟩
    refine ⟨_, rfl, p, C, dx, _, _, rfl, h1, T.ins.cl, T.nM, flM_get t, t, _, rfl, .inr (.of h2), ?_⟩
    rw [List.length_map]
    exact k
end
end Mf
namespace Mf
open PySem L2
section
variable {P : Program} {w : World} {K : PySem.W.Frag} {mg : Str → Option Value} {base : Heap} {C : Addr}
/-! ### _law_names, _law_subset, _law_sorted, _law_truths, _law_mixed -/
def spNames : Sp := fun vs H Q _ => ∃ (a : Addr) (many n : Nat), vs = [.ref a, .int many] ∧ many ≤ 16 ∧ Src H a (n + 10 * many) ∧
  ∀ (p : Addr) (zs : List Str) (H' : Hp), zs.length = many → zs.Nodup → (∀ z ∈ zs, IsName z) → H p = none → H' p = some (.lst (zs.map V.str)) → Kp a H H' → Src H' a n → Q (.ref p) H'
abbrev sNames : Stmt := top 11
theorem scNames : FnScope ["_law_source_here", "_law_many", "_law_names_here", "_law_k"] ["_law_source_here", "_law_many"] (defScope sNames) := ⟨rfl, rfl, rfl, by decide +kernel, rfl, by decide +kernel, by decide +kernel⟩
theorem ok_names {f : Addr} {fd : FuncData} (F : Fun K "_law_names" "_law_names" sNames f fd) (c_name : Cal P w K mg base CX0 2 "_law_name" ["_law_source_here", "_law_taken"] (spName K)) (mRange : mg "range" = none) (mList : mg "list" = none) : FnOk P w K mg base CX0 3 f fd ["_law_source_here", "_law_many"] spNames := by
  refine F.ok scNames (fun vs H Q E h => ?_) (fun cdv A outer s H vs Q E hr h => ?_)
  · obtain ⟨a, many, n, rfl, _⟩ := h
    rfl
  · obtain ⟨a, many, n, rfl, m16, S, k⟩ := h
    have hr_name := hr
    refine ⟨_, (pss_cons (ps_set (i := 2) scNames.nd rfl (by first | exact Or.inl rfl | exact Or.inr rfl) (pe_lst pa_nil))
      (pss_cons (ps_for PassesOwn.never rfl (pi_range1 (by rfl) mRange (pa_cons (pv 1) pa_nil)) (pg_name (i := 3) scNames.nd rfl (by first | exact Or.inl rfl | exact Or.inr rfl))
        (pss_one (ps_expr (pe_bm PySem.F.plainAttrs_list PySem.F.slot_list_append PySem.F.type_list_append mt_append (pv 2) (pa_cons (pe_cal c_name hr_name pass0 (pa_cons (pv 0) (pa_cons (pe_callTy (k_list K) (by rfl) mList (by decide +kernel) (pa_cons (pv 2) pa_nil)) pa_nil))) pa_nil)))))
      (pss_one (ps_ret (pv 2))))), ?_⟩
    refine ⟨(by show 0 ≤ sizeLine; decide), fun p hp => ⟨_, rfl, many, rfl, by omega, by omega, ?_⟩⟩
    refine for_range (lo := 0) (n := many) (fun i σ H' => ∃ (zs : List Str) (vk : Option V), σ = [some (.ref a), some (.int many), some (.ref p), vk] ∧ zs.length = i ∧ zs.Nodup ∧ (∀ z ∈ zs, IsName z) ∧ H' p = some (.lst (zs.map V.str)) ∧ Kp a H H' ∧ Src H' a (n + 10 * (many - i)))
      ⟨[], none, rfl, rfl, List.nodup_nil, (by simp), upd_same, Kp.new hp, S.new hp⟩ ?_ ?_
    · rintro i σ H1 hi ⟨zs, vk, rfl, hl, nd, nm, h1, k1, S1⟩
      have pa : p ≠ a := S.ne hp
      refine ⟨_, rfl, .inl ⟨rfl, _, .of h1⟩, _, rfl, _, rfl, p, _, rfl, .inl (.of h1), fun l hl' => ?_⟩
      refine ⟨a, l, zs, n + 10 * (many - (i + 1)), rfl, (S1.new hl').mono (by omega), S1.ne hl', .of upd_same, by omega, fun z H2 nz fz k2 S2 => ?_⟩
      have h2 : H2 p = some (.lst (zs.map V.str)) := k2 _ _ pa ((Same.new hl') _ _ h1)
      refine ⟨p, _, _, rfl, rfl, h2, ?_, ?_⟩
      · rw [List.length_map]
        exact Nat.lt_of_lt_of_le (by omega : zs.length < 16) (by decide)
      · refine ⟨zs ++ [z], _, rfl, by rw [List.length_append, hl]; rfl, ?_, fun y hy => ?_, by rw [upd_same, List.map_append]; rfl, ?_, S2.put pa⟩
        · exact List.nodup_append.mpr ⟨nd, List.nodup_cons.mpr ⟨by simp, List.nodup_nil⟩, fun y hy u hu e => fz (by rw [List.mem_singleton.mp hu] at e; exact e ▸ hy)⟩
        · rcases List.mem_append.mp hy with hy | hy
          · exact nm y hy
          · rw [List.mem_singleton.mp hy]; exact nz
        · exact ((k1.trans (Kp.new hl')).trans k2).mut hp
    · rintro σ H1 ⟨zs, vk, rfl, hl, nd, nm, h1, k1, S1⟩
      exact ⟨_, rfl, k p zs H1 hl nd nm hp h1 k1 (S1.mono (by omega))⟩
def spSubset (K : PySem.W.Frag) : Sp := fun vs H Q _ => ∃ (a r : Addr) (zs : List Str) (n : Nat), vs = [.ref a, .ref r] ∧ r ≠ a ∧ SqL K H r (zs.map V.str) ∧ zs.length ≤ 1000 ∧ Src H a (n + zs.length) ∧
  ∀ (p : Addr) (ys : List Str) (H' : Hp), ys.Sublist zs → H p = none → H' p = some (.lst (ys.map V.str)) → Kp a H H' → Src H' a n → Q (.ref p) H'
abbrev sSubset : Stmt := top 12
theorem scSubset : FnScope ["_law_source_here", "_law_row", "_law_one"] ["_law_source_here", "_law_row"] (defScope sSubset) := ⟨rfl, rfl, rfl, by decide +kernel, rfl, by decide +kernel, by decide +kernel⟩
theorem ok_subset {f : Addr} {fd : FuncData} (F : Fun K "_law_subset" "_law_subset" sSubset f fd) (c_draw : Cal P w K mg base CX0 1 "_law_draw" psD spDraw) : FnOk P w K mg base CX0 2 f fd ["_law_source_here", "_law_row"] (spSubset K) := by
  refine F.ok scSubset (fun vs H Q E h => ?_) (fun cdv A outer s H vs Q E hr h => ?_)
  · obtain ⟨a, r, zs, n, rfl, _⟩ := h
    rfl
  · obtain ⟨a, r, zs, n, rfl, ra, hz, hl, S, k⟩ := h
    have hr_draw := hr
    refine ⟨_, (pss_one (ps_ret (pe_lc (own := [("_law_one", 2)]) (g := (gName 2)) rfl scSubset.nd (pi_list (pv 1)) (blkOk_by (own := [("_law_one", 2)]) (N := ["_law_source_here", "_law_row", "_law_one"]) (sc := defScope sSubset) (by decide +kernel)) (fun _ _ _ _ _ => (pg_name (i := 2) scSubset.nd rfl (by first | exact Or.inl rfl | exact Or.inr rfl))) (fun _ _ _ _ _ => pts_one (pt_cmpR op_eq (pe_cal c_draw hr_draw pass0 (pa_cons (pv 0) (pa_cons pe_int pa_nil))) pe_int (nomark _))) (fun _ _ _ _ _ => (pv 2))))), ?_⟩
    refine ⟨_, rfl, r, rfl, ⟨_, hz⟩, fun D hD => ?_⟩
    have Da : D ≠ a := S.ne hD
    refine lc_it walk_list (fun i H' => ∃ ys : List Str, ys.Sublist (zs.take i) ∧ H' D = some (.lst (ys.map V.str)) ∧ Kp a H H' ∧ Src H' a (n + (zs.length - i))) ⟨[], List.Sublist.refl _, upd_same, Kp.new hD, S.new hD⟩ (fun i H' _ q => q.choose_spec.2.2.1.lst ra hz) ?_ ?_
    · rintro i x H1 _ hi ⟨ys, sb, h1, k1, S1⟩ ⟨rfl, hx⟩
      rw [List.getElem?_map] at hx
      obtain ⟨z, hz', rfl⟩ := Option.map_eq_some_iff.mp hx
      rw [List.length_map] at hi
      have tk : zs.take (i + 1) = zs.take i ++ [z] := by rw [List.take_add_one, hz']; rfl
      refine ⟨rfl, _, rfl, a, 2, n + (zs.length - (i + 1)), rfl, by decide, by decide, S1.mono (by omega), fun v H2 v0 v1 k2 S2 => ⟨rfl, _, rfl, ite2 (fun _ => ?_) fun _ => ?_⟩⟩
      · refine ⟨_, rfl, _, k2 _ _ Da h1, ?_, ys ++ [z], by rw [tk]; exact List.Sublist.append sb (List.Sublist.refl _), by rw [upd_same, List.map_append]; rfl, (k1.trans k2).mut hD, S2.put Da⟩
        rw [List.length_map]
        have q := sb.length_le
        rw [List.length_take] at q
        exact Nat.lt_of_lt_of_le (by omega : ys.length < 1001) (by decide)
      · exact ⟨ys, by rw [tk]; exact sb.trans (List.sublist_append_left _ _), k2 _ _ Da h1, k1.trans k2, S2⟩
    · rintro H1 ⟨ys, sb, h1, k1, S1⟩
      rw [List.length_map, List.take_length] at sb
      exact k D ys H1 sb hD h1 k1 (S1.mono (by omega))

def spSorted (K : PySem.W.Frag) : Sp := fun vs H Q _ => ∃ (r : Addr) (zs : List Str), vs = [.ref r] ∧ SqL K H r (zs.map V.str) ∧ zs.length < 64 ∧ ∀ (t : Addr) (ys : List Str) (H' : Hp), PyProof.Rows.sortedS ys = true → ys.Perm zs → H' t = some (.tup (ys.map V.str)) → Same H H' → Q (.ref t) H'
abbrev sSorted : Stmt := top 13
theorem scSorted : FnScope ["_law_names_here", "_law_name_here"] ["_law_names_here"] (defScope sSorted) := ⟨rfl, rfl, rfl, by decide +kernel, rfl, by decide +kernel, by decide +kernel⟩
theorem ok_sorted {f : Addr} {fd : FuncData} (F : Fun K "_law_sorted" "_law_sorted" sSorted f fd) (mTuple : mg "tuple" = none) (mSorted : mg "sorted" = none) (mStr : mg "str" = none) : FnOk P w K mg base CX0 1 f fd ["_law_names_here"] (spSorted K) := by
  refine F.ok scSorted (fun vs H Q E h => ?_) (fun cdv A outer s H vs Q E hr h => ?_)
  · obtain ⟨r, zs, rfl, _⟩ := h
    rfl
  · obtain ⟨r, zs, rfl, hz, hl, k⟩ := h
    refine ⟨_, (pss_one (ps_ret (pe_callTy (k_tuple K) (by rfl) mTuple (by decide +kernel) (pa_cons (pe_callB (k_sortedS K) (by rfl) mSorted (by decide +kernel) (pa_cons (pe_lc (own := [("_law_name_here", 1)]) (g := (gName 1)) (tt := tYes) rfl scSorted.nd (pi_list (pv 0)) (blkOk_by (own := [("_law_name_here", 1)]) (N := ["_law_names_here", "_law_name_here"]) (sc := defScope sSorted) (by decide +kernel)) (fun _ _ _ _ _ => (pg_name (i := 1) scSorted.nd rfl (by first | exact Or.inl rfl | exact Or.inr rfl))) (fun _ _ _ _ _ => pts_nil) (fun _ _ _ _ _ => (pe_callTy SkE.call_str_str (by rfl) mStr (by decide +kernel) (pa_cons (pv 1) pa_nil)))) pa_nil)) pa_nil)))), ?_⟩
    refine ⟨_, rfl, r, rfl, ⟨_, hz⟩, fun D hD => ?_⟩
    refine lc_it walk_list (fun i H' => Same H H' ∧ H' D = some (.lst ((zs.take i).map V.str))) ⟨Same.new hD, upd_same⟩ (fun i H' _ q => q.1.seq hz) ?_ ?_
    · rintro i x H1 _ hi ⟨s1, h1⟩ ⟨rfl, hx⟩
      rw [List.getElem?_map] at hx
      obtain ⟨z, hz', rfl⟩ := Option.map_eq_some_iff.mp hx
      rw [List.length_map] at hi
      have tk : zs.take (i + 1) = zs.take i ++ [z] := by rw [List.take_add_one, hz']; rfl
      refine ⟨rfl, yes_then ?_⟩
      refine ⟨_, rfl, z, rfl, _, h1, ?_, s1.mut hD, by rw [upd_same, tk, List.map_append]; rfl⟩
      rw [List.length_map]
      exact Nat.lt_of_le_of_lt (List.length_take_le _ _) (Nat.lt_of_lt_of_le (by omega : i < 64) (by decide))
    · rintro H1 ⟨s1, h1⟩
      rw [List.length_map, List.take_length] at h1
      refine ⟨D, zs, rfl, .of h1, hl, fun ys p pm so np => ⟨p, _, rfl, .inl ⟨.of upd_same, fun t nt => ?_⟩⟩⟩
      exact k t ys _ so pm upd_same ((s1.trans (Same.new np)).trans (Same.new nt))

def spTruths : Sp := fun vs H Q _ => ∃ (f d : Addr) (bs cs : List Bool), vs = [.ref f, .ref d] ∧ H f = some (.lst (bs.map V.bl)) ∧ H d = some (.lst (cs.map V.bl)) ∧ bs.length ≤ 1000 ∧ ∀ H', Same H H' → Q (.bl (decide (bs = cs))) H'
abbrev sTruths : Stmt := top 14
theorem scTruths : FnScope ["_law_found", "_law_due", "_law_truth"] ["_law_found", "_law_due"] (defScope sTruths) := ⟨rfl, rfl, rfl, by decide +kernel, rfl, by decide +kernel, by decide +kernel⟩
theorem ok_truths {f : Addr} {fd : FuncData} (F : Fun K "_law_truths" "_law_truths" sTruths f fd) (mAll : mg "all" = none) (mIsi : mg "isinstance" = none) (mBool : mg "bool" = none) : FnOk P w K mg base CX0 1 f fd ["_law_found", "_law_due"] spTruths := by
  refine F.ok scTruths (fun vs H Q E h => ?_) (fun cdv A outer s H vs Q E hr h => ?_)
  · obtain ⟨f, d, bs, cs, rfl, _⟩ := h
    rfl
  · obtain ⟨f, d, bs, cs, rfl, hf, hd, hl, k⟩ := h
    refine ⟨_, (pss_one (ps_ret (pe_and (pe_callB (k_all K) (by rfl) mAll (by decide +kernel) (pa_cons (pe_lc (own := [("_law_truth", 2)]) (g := (gName 2)) (tt := tYes) rfl scTruths.nd (pi_list (pv 0)) (blkOk_by (own := [("_law_truth", 2)]) (N := ["_law_found", "_law_due", "_law_truth"]) (sc := defScope sTruths) (by decide +kernel)) (fun _ _ _ _ _ => (pg_name (i := 2) scTruths.nd rfl (by first | exact Or.inl rfl | exact Or.inr rfl))) (fun _ _ _ _ _ => pts_nil) (fun _ _ _ _ _ => (pe_callB (k_isi K) (by rfl) mIsi (by decide +kernel) (pa_cons (pv 2) (pa_cons (pe_bltn (v := .ty "bool") (by rfl) mBool (by decide +kernel) rfl) pa_nil))))) pa_nil)) (pe_one (pe_cmpR (eqD K hr) (pv 0) (pv 1) (nomark _)))))), ?_⟩
    refine ⟨_, rfl, f, rfl, ⟨_, .of hf⟩, fun D hD => ?_⟩
    refine lc_it walk_list (fun i H' => Same H H' ∧ H' D = some (.lst ((bs.take i).map fun _ => V.bl true))) ⟨Same.new hD, upd_same⟩ (fun i H' _ q => .of (q.1 _ _ hf)) ?_ ?_
    · rintro i x H1 _ hi ⟨s1, h1⟩ ⟨rfl, hx⟩
      rw [List.getElem?_map] at hx
      obtain ⟨z, hz', rfl⟩ := Option.map_eq_some_iff.mp hx
      rw [List.length_map] at hi
      have tk : bs.take (i + 1) = bs.take i ++ [z] := by rw [List.take_add_one, hz']; rfl
      refine ⟨rfl, yes_then ?_⟩
      refine ⟨_, rfl, _, _, _, _, true, rfl, .ty _, .base (.bl z), kit_ty (by decide +kernel), _, h1, ?_, s1.mut hD, by rw [upd_same, tk, List.map_append]; rfl⟩
      rw [List.length_map]
      exact Nat.lt_of_le_of_lt (List.length_take_le _ _) (Nat.lt_of_lt_of_le (by omega : i < 1000) (by decide))
    · rintro H1 ⟨s1, h1⟩
      have e : ((bs.take (bs.map V.bl).length).map fun _ => V.bl true) = (bs.map fun _ => true).map V.bl := by rw [List.length_map, List.take_length, List.map_map]; rfl
      rw [e] at h1
      have al : (bs.map fun _ => true).all id = true := by rw [List.all_map]; exact List.all_eq_true.mpr fun _ _ => rfl
      refine ⟨D, _, rfl, .of h1, _, rfl, ?_⟩
      rw [al]
      refine iteT ⟨_, rfl, _, rfl, _, _, .lst (.of (s1 _ _ hf)) (dpB bs), .lst (.of (s1 _ _ hd)) (dpB cs), shB bs, shB cs, ?_⟩
      show Q (.bl (PyData.eqvAll _ _)) H1
      rw [eqvB]
      exact k H1 s1

end
end Mf
namespace Mf
open PySem L2
/-! ### from K01 -/
theorem sorted_is {ms zs ys : List Str} (up : Up ms) (nd : zs.Nodup) (m : ∀ z, z ∈ ms ↔ z ∈ zs) (so : PyProof.Rows.sortedS ys = true) (pm : ys.Perm zs) : ys = ms :=
  up_one (up_of so (pm.nodup_iff.mpr nd)) up fun z => by rw [pm.mem_iff, m z]
/-! ### the policies -/
def flK (q : Addr) : List (Str × V) := putF "marks" (.ref q) []
theorem flK_get (q : Addr) : (flK q).lookup ("marks" : Str) = some (.ref q) := by
  unfold flK
  rw [lookup_putF, if_pos rfl]
theorem flK_word (q : Addr) : (flK q).lookup ("word" : Str) = none := by
  unfold flK
  rw [lookup_putF, if_neg (by decide)]
  rfl
/-- the object of the class C at p, its marks ms -/
def Pol (C Cn : Addr) (H : Hp) (p : Addr) (ms : List Str) : Prop := ∃ dx q, H p = some (.ins C dx (flK q)) ∧ NSet Cn H q ms
theorem Pol.same {C Cn : Addr} {H H' : Hp} {p : Addr} {ms : List Str} (h : Pol C Cn H p ms) (s : Same H H') : Pol C Cn H' p ms := let ⟨dx, q, a, b⟩ := h; ⟨dx, q, s _ _ a, b.same s⟩
/-- a class below Policy, its word -/
structure PoC (K : PySem.W.Frag) (Cb C : Addr) (wd : Str) : Prop where
  ins : C8.InsC K C
  nM : NoAttr K C "marks"
  con : ∃ u, Con K C "word" (.str wd) u
  isb : PySem.W.kitOne K (.ref C) (.ref Cb) = some true
theorem NSet.put {C : Addr} {H : Hp} {p q : Addr} {ms : List Str} {D dx : Addr} {fs : List (Str × V)} {o : HO} (h : NSet C H q ms) (hp : H p = some (.ins D dx fs)) (n : q ≠ p) : NSet C (upd H p o) q ms := by
  obtain ⟨dy, t, a, b, c⟩ := h
  exact ⟨dy, t, by rw [upd_ne n]; exact a, by rw [upd_ne (fun e => by rw [e, hp] at b; cases b)]; exact b, c⟩
section
variable {P : Program} {w : World} {K : PySem.W.Frag} {mg : Str → Option Value} {base : Heap} {Cn Cb C : Addr}
theorem PoC.isi {H : Hp} {p : Addr} {dx : Addr} {fs : List (Str × V)} {wd : Str} (T : PoC K Cb C wd) (h : H p = some (.ins C dx fs)) : TyX K H (.ref p) (.ref C) := .base (.ins h T.ins.cl T.ins.ha T.ins.hn T.ins.htk T.ins.hm)
theorem NsC.below {H : Hp} {q : Addr} {ms : List Str} (T : NsC K mg C) (h : NSet C H q ms) : NotBelow K C (.ref q) H :=
  let ⟨_, _, h1, _⟩ := h
  ⟨.ref C, T.isi h1, by simp [PySem.W.notFirst]⟩
theorem conK (K : PySem.W.Frag) {X : Cx} {e : Expr} {ta : TE} {f : Str} {pos : Pos} (he : PE X e ta) (hb : attributeBase e f X.env (eval e X.env) = eval e X.env := by rfl) (h : X.K = K := by rfl) : PE X (.Attribute e f pos) (tCon K ta f) := h ▸ pe_con he hb
/-- Policy() of the class C -/
def spPolI (K : PySem.W.Frag) (C Cn : Addr) : Sp := fun vs H Q _ => ∃ (p dx : Addr), vs = [.ref p] ∧ H p = some (.ins C dx []) ∧ ∀ q H', H' p = some (.ins C dx (flK q)) → NSet Cn H' q [] → (∀ b o, b ≠ p → H b = some o → H' b = some o) → Q .non H'
abbrev sPolicyInit : Stmt := inClass (top 3) 1
theorem scPolicyInit : FnScope ["self"] ["self"] (defScope sPolicyInit) := ⟨rfl, rfl, rfl, by decide +kernel, rfl, by decide +kernel, by decide +kernel⟩
theorem ok_polI {wd : Str} {f t0 : Addr} {fd : FuncData} (F : Fun K "__init__" "Policy.__init__" sPolicyInit f fd) (T : NsC K mg Cn) (B : PoC K Cb C wd) (mk0 : CalN P w K mg base Cn [.ref t0]) (a0 : ∀ H, ArgS K Cn H (.ref t0) []) : FnOk P w K mg base CX0 3 f fd ["self"] (spPolI K C Cn) := by
  refine F.ok scPolicyInit (fun vs H Q E h => ?_) (fun cdv A outer s H vs Q E hr h => ?_)
  · obtain ⟨p, dx, rfl, _⟩ := h
    rfl
  · obtain ⟨p, dx, rfl, hp, k⟩ := h
    refine ⟨_, (pss_one (ps_fld (pv 0) (pe_mkc0 mk0 hr pass0 ) rfl)), ?_⟩
    intro q dq nq ndq ne
    refine ⟨q, dq, .ref t0, [], rfl, upd_same, a0 _, by decide, fun t ms H1 up m e1 e2 kp => ⟨rfl, ?_⟩⟩
    obtain ⟨N, s1⟩ := ns_after (by decide) (by simp) nq ndq up m e1 e2 kp
    have hp1 := s1 _ _ hp
    have e : ms = [] := List.eq_nil_iff_forall_not_mem.mpr fun z hz => List.not_mem_nil ((m z).mp hz)
    subst e
    refine ⟨_, rfl, p, C, dx, [], rfl, hp1, B.ins.cl, B.nM, (by show 0 < 1000; decide), ?_⟩
    exact k q _ upd_same (N.put hp1 (ne_none nq hp)) fun b o n e => by rw [upd_ne n]; exact s1 _ _ e
/-- EagerPolicy(x) -/
def spEagI (K : PySem.W.Frag) (C Cn : Addr) : Sp := fun vs H Q _ => ∃ (p dx : Addr) (x : V) (xs : List Str), vs = [.ref p, x] ∧ H p = some (.ins C dx []) ∧ ArgS K Cn H x xs ∧ xs.length < 4000 ∧ (∀ z ∈ xs, PyData.strOk z = true) ∧
  ∀ q ms H', H' p = some (.ins C dx (flK q)) → NSet Cn H' q ms → (∀ z, z ∈ ms ↔ z ∈ xs) → (∀ b o, b ≠ p → H b = some o → H' b = some o) → Q .non H'
abbrev sEagerPolicyInit : Stmt := inClass (top 6) 1
theorem scEagerPolicyInit : FnScope ["self", "marks"] ["self", "marks"] (defScope sEagerPolicyInit) := ⟨rfl, rfl, rfl, by decide +kernel, rfl, by decide +kernel, by decide +kernel⟩
theorem ok_eagI {wd : Str} {f : Addr} {fd : FuncData} {dvs : List V} {kws : List (Str × V)} {ar : Arguments} (F : FunD K "__init__" "EagerPolicy.__init__" ar (defBody sEagerPolicyInit) (defScope sEagerPolicyInit) dvs kws f fd) (B : PoC K Cb C wd) (mk : CalN P w K mg base Cn []) : FnOk P w K mg base CX0 3 f fd ["self", "marks"] (spEagI K C Cn) := by
  refine F.ok scEagerPolicyInit (fun vs H Q E h => ?_) (fun cdv A outer s H vs Q E hr h => ?_)
  · obtain ⟨p, dx, x, xs, rfl, _⟩ := h
    rfl
  · obtain ⟨p, dx, x, xs, rfl, hp, ax, few, ok, k⟩ := h
    refine ⟨_, (pss_one (ps_fld (pv 0) (pe_mkc mk hr pass0 (pa_cons (pv 1) pa_nil)) rfl)), ?_⟩
    refine ⟨_, rfl, ?_⟩
    intro q dq nq ndq ne
    refine ⟨q, dq, x, xs, rfl, upd_same, ax.same (ns_grow nq ndq), few, fun t ms H1 up m e1 e2 kp => ⟨rfl, ?_⟩⟩
    obtain ⟨N, s1⟩ := ns_after few ok nq ndq up m e1 e2 kp
    have hp1 := s1 _ _ hp
    refine ⟨_, rfl, p, C, dx, [], rfl, hp1, B.ins.cl, B.nM, (by show 0 < 1000; decide), ?_⟩
    exact k q ms _ upd_same (N.put hp1 (ne_none nq hp)) m fun b o n e => by rw [upd_ne n]; exact s1 _ _ e
/-! ### == -/
/-- the other operand of ==: a policy, or nothing of the kind -/
def OthK (K : PySem.W.Frag) (Cb Cn : Addr) (H : Hp) (y : V) (wd : Str) (ms : List Str) (b : Bool) : Prop := (∃ C q wd' ns, PoC K Cb C wd' ∧ y = .ref q ∧ Pol C Cn H q ns ∧ b = (decide (wd = wd') && decide (ms = ns))) ∨ ∃ t, TyX K H y t ∧ PySem.W.kitOne K t (.ref Cb) = some false ∧ b = false
def spPolEq (K : PySem.W.Frag) (Cb Cn : Addr) : Sp := fun vs H Q _ => ∃ (C p : Addr) (wd : Str) (ms : List Str) (y : V) (b : Bool), vs = [.ref p, y] ∧ PoC K Cb C wd ∧ Pol C Cn H p ms ∧ OthK K Cb Cn H y wd ms b ∧ Q (.bl b) H
abbrev sPolicyEq : Stmt := inClass (top 3) 2
theorem scPolicyEq : FnScope ["self", "other"] ["self", "other"] (defScope sPolicyEq) := ⟨rfl, rfl, rfl, by decide +kernel, rfl, by decide +kernel, by decide +kernel⟩
theorem ok_polEq {f : Addr} {fd : FuncData} (F : Fun K "__eq__" "Policy.__eq__" sPolicyEq f fd) (T : NsC K mg Cn) (m_eq : CalM P w K mg base CX0 1 Cn "__eq__" psSO (spNsEq K Cn)) (mg_Policy : mg "Policy" = some (.ref Cb)) : FnOk P w K mg base CX0 2 f fd psSO (spPolEq K Cb Cn) := by
  refine F.ok scPolicyEq (fun vs H Q E h => ?_) (fun cdv A outer s H vs Q E hr h => ?_)
  · obtain ⟨C, p, wd, ms, y, b, rfl, _⟩ := h
    rfl
  · obtain ⟨C, p, wd, ms, y, b, rfl, B, ⟨dx, q, h1, N⟩, o, k⟩ := h
    have mIsi := T.mIsi
    refine ⟨_, (pss_one (ps_ret (pe_and (pe_callB (k_isi K) (by rfl) mIsi (by decide +kernel) (pa_cons (pv 1) (pa_cons (pe_glob (v := .ref _) rfl mg_Policy rfl) pa_nil))) (pe_and (pe_cmpR op_eq (conK K (pv 0)) (conK K (pv 1)) (nomark _)) (pe_one (pe_cmpR (om_cmp (op := .Eq) K m_eq hr pass0) (fldK K (pv 0)) (fldK K (pv 1)) (nomark _))))))), ?_⟩
    rcases o with ⟨D, r, wd', ns, B', rfl, ⟨dy, q', h1', N'⟩, rfl⟩ | ⟨t, ty, kt, rfl⟩
    · obtain ⟨u, cu⟩ := B.con
      obtain ⟨u', cu'⟩ := B'.con
      refine ⟨_, rfl, _, _, _, _, true, rfl, .own Cb, B'.isi h1', B'.isb, _, rfl, iteT ?_⟩
      refine ⟨_, rfl, p, C, dx, _, _, u, rfl, h1, B.ins.cl, cu, flK_word q, _, rfl, r, D, dy, _, _, u', rfl, h1', B'.ins.cl, cu', flK_word q', rfl, ?_⟩
      refine ⟨_, rfl, ite2 (fun e => ?_) fun e => ?_⟩
      · have e : wd = wd' := V.str.inj (of_decide_eq_true e)
        have NN := N; have NN' := N'
        obtain ⟨dq, t, n1, _⟩ := NN
        refine ⟨_, rfl, p, C, dx, _, _, rfl, h1, B.ins.cl, B.nM, flK_get q, _, rfl, r, D, dy, _, _, rfl, h1', B'.ins.cl, B'.nM, flK_get q', q, dq, _, rfl, n1, T.below N', q, ms, .ref q', _, rfl, N, .inl ⟨q', ns, rfl, N', rfl⟩, ?_⟩
        rw [decide_eq_true e, Bool.true_and] at k
        exact k
      · have e : wd ≠ wd' := fun h => e (by rw [h]; exact decide_eq_true rfl)
        rw [decide_eq_false e, Bool.false_and] at k
        exact k
    · refine ⟨_, rfl, _, _, _, _, false, rfl, .own Cb, ty, kt, _, rfl, iteF ?_⟩
      exact k
/-! ### str -/
def polT (wd : Str) (ms : List Str) : Str := Txt.join (" " : Str) (wd :: ms)
def spPolStr (K : PySem.W.Frag) (Cb Cn : Addr) : Sp := fun vs H Q _ => ∃ (C p : Addr) (wd : Str) (ms : List Str), vs = [.ref p] ∧ PoC K Cb C wd ∧ Pol C Cn H p ms ∧ wd.length ≤ 8 ∧ ms.length ≤ 16 ∧ (∀ z ∈ ms, z.length ≤ 8) ∧ ∀ H', Same H H' → Q (.str (polT wd ms)) H'
abbrev sPolicyStr : Stmt := inClass (top 3) 3
theorem scPolicyStr : FnScope ["self"] ["self"] (defScope sPolicyStr) := ⟨rfl, rfl, rfl, by decide +kernel, rfl, by decide +kernel, by decide +kernel⟩
theorem ok_polStr {f : Addr} {fd : FuncData} (F : Fun K "__str__" "Policy.__str__" sPolicyStr f fd) (T : NsC K mg Cn) : FnOk P w K mg base CX0 1 f fd ["self"] (spPolStr K Cb Cn) := by
  refine F.ok scPolicyStr (fun vs H Q E h => ?_) (fun cdv A outer s H vs Q E hr h => ?_)
  · obtain ⟨C, p, wd, ms, rfl, _⟩ := h
    rfl
  · obtain ⟨C, p, wd, ms, rfl, B, ⟨dx, q, h1, dq, t, n1, n2, up, few, ok⟩, lw, lm, lz, k⟩ := h
    obtain ⟨u, cu⟩ := B.con
    refine ⟨_, (pss_one (ps_ret (pe_join pe_str (pe_lst (pa_cons (conK K (pv 0)) (StX.pa_star (fldK K (fldK K (pv 0))) pa_nil)))))), ?_⟩
    refine ⟨⟨_, rfl⟩, _, rfl, p, C, dx, _, _, u, rfl, h1, B.ins.cl, cu, flK_word q, ?_⟩
    refine ⟨_, rfl, p, C, dx, _, _, rfl, h1, B.ins.cl, B.nM, flK_get q, q, Cn, dq, _, _, rfl, n1, T.ins.cl, T.nM, flM_get t, t, _, rfl, .inl (.of n2), ?_⟩
    have e : V.str wd :: (ms.map V.str ++ []) = (wd :: ms).map V.str := by rw [List.append_nil]; rfl
    refine ⟨?_, fun l nl => ?_⟩
    · show (V.str wd :: (ms.map V.str ++ [])).length ≤ _
      rw [e, List.length_map]
      exact Nat.le_trans (by show ms.length + 1 ≤ 17; omega) (by decide)
    have a := sum_le (k := 8) (ys := wd :: ms) fun y hy => by
      rcases List.mem_cons.mp hy with rfl | hy
      · exact lw
      · exact lz y hy
    have c1 : (" " : Str).length = 1 := by decide +kernel
    have big : (5000 : Nat) < sizeLine := by decide
    have ll : (wd :: ms).length = ms.length + 1 := rfl
    refine ⟨_, l, wd :: ms, rfl, rfl, .inl (.of (by rw [← e]; exact upd_same)), (by rw [c1]; omega), ?_⟩
    exact k _ (Same.new nl)
end
end Mf
namespace Mf
open PySem L2
/-- a policy's class with its methods -/
structure PoO (P : Program) (w : World) (K : PySem.W.Frag) (mg : Str → Option Value) (base : Heap) (Cb Cn C : Addr) (wd : Str) : Prop where
  b : PoC K Cb C wd
  eq : CalM P w K mg base CX0 2 C "__eq__" psSO (spPolEq K Cb Cn)
  ne : PySem.W.findIn K (.ref C) "__ne__" = some (some (.builtin "object.__ne__"))
  str : CalM P w K mg base CX0 1 C "__str__" ["self"] (spPolStr K Cb Cn)
  len : wd.length ≤ 8
  bS : PySem.W.notFirst K C (.type "str") = true
  bN : PySem.W.notFirst K C (.ref Cn) = true
section
variable {X : Cx} {Cb Cn : Addr} {E : XK}
theorem om_eqK (K : PySem.W.Frag) (Cb Cn : Addr) (hr : Room 2 X.A) (hx : Passes CX0 X E) (h : X.K = K := by rfl) : OpR X (compareOp .Eq) (fun x y H Q => ∃ C wd, PoO X.prog X.w K X.mg X.base Cb Cn C wd ∧ rCmpO K C (spPolEq K Cb Cn) E x y H Q) := by
  subst h
  rintro pins s σ H x y v u Q I rx ry ⟨C, wd, O, q⟩
  exact om_cmp (op := .Eq) X.K O.eq hr hx (fun _ _ => rfl) rfl pins s σ H x y v u Q I rx ry q
theorem om_neK (K : PySem.W.Frag) (Cb Cn : Addr) (hr : Room 3 X.A) (hx : Passes CX0 X E) (h : X.K = K := by rfl) : OpR X (compareOp .NotEq) (fun x y H Q => ∃ C wd, PoO X.prog X.w K X.mg X.base Cb Cn C wd ∧ rNeO K C (spPolEq K Cb Cn) E x y H Q) := by
  subst h
  rintro pins s σ H x y v u Q I rx ry ⟨C, wd, O, q⟩
  exact om_ne X.K O.eq O.ne O.b.ins.hm hr hx rfl pins s σ H x y v u Q I rx ry q
theorem call_strK (K : PySem.W.Frag) (Cb Cn : Addr) (hr : Room 3 X.A) (hx : Passes CX0 X E) (h : X.K = K := by rfl) : CallR X (.type "str") (fun xs H Q => ∃ C wd, PoO X.prog X.w K X.mg X.base Cb Cn C wd ∧ rStrO C (spPolStr K Cb Cn) E xs H Q) := by
  subst h
  rintro pins s σ H xs us Q I r ⟨C, wd, O, q⟩
  obtain ⟨f, fd, M, _, F, b⟩ := O.str.ex
  exact call_strO M F hr b hx pins s σ H xs us Q I r q
end
section
variable {P : Program} {w : World} {K : PySem.W.Frag} {mg : Str → Option Value} {base : Heap} {Cn Cb C : Addr}
theorem SameL {t : Addr} {H H' : Hp} {xs : List V} (x : Same H H') (h : SqL K H t xs) : SqL K H' t xs := by
  rcases h with (h | ⟨o, h⟩) | h
  · exact .inl (.inl (x _ _ h))
  · exact .inl (.inr ⟨o, x _ _ h⟩)
  · exact .inr h
def spIs (P : Program) (w : World) (K : PySem.W.Frag) (mg : Str → Option Value) (base : Heap) (Cb Cn : Addr) : Sp := fun vs H Q _ => ∃ (C p d : Addr) (wd : Str) (ms zs : List Str), vs = [.ref p, .str wd, .ref d] ∧ PoO P w K mg base Cb Cn C wd ∧ Pol C Cn H p ms ∧ SqL K H d (zs.map V.str) ∧ zs.length ≤ 16 ∧ zs.Nodup ∧ (∀ z ∈ zs, IsName z) ∧ (∀ z, z ∈ ms ↔ z ∈ zs) ∧ ∀ H', Same H H' → Q (.bl true) H'
abbrev sIs : Stmt := top 15
theorem scIs : FnScope ["_law_rule", "_law_word", "_law_marked"] ["_law_rule", "_law_word", "_law_marked"] (defScope sIs) := ⟨rfl, rfl, rfl, by decide +kernel, rfl, by decide +kernel, by decide +kernel⟩
theorem ok_is {f : Addr} {fd : FuncData} (F : Fun K "_law_is" "_law_is" sIs f fd) (T : NsC K mg Cn) (mg_Policy : mg "Policy" = some (.ref Cb)) (mStr : mg "str" = none) (mList : mg "list" = none) (c_sorted : Cal P w K mg base CX0 1 "_law_sorted" ["_law_names_here"] (spSorted K)) : FnOk P w K mg base CX0 4 f fd ["_law_rule", "_law_word", "_law_marked"] (spIs P w K mg base Cb Cn) := by
  refine F.ok scIs (fun vs H Q E h => ?_) (fun cdv A outer s H vs Q E hr h => ?_)
  · obtain ⟨C, p, d, wd, ms, zs, rfl, _⟩ := h
    rfl
  · obtain ⟨C, p, d, wd, ms, zs, rfl, O, hP, hd, hl, nd, nm, m, k⟩ := h
    have B := O.b
    obtain ⟨dx, q, h1, N⟩ := hP
    have NN := N
    obtain ⟨dq, t, n1, n2, up, few, ok⟩ := NN
    have mIsi := T.mIsi; have mg_NameSet := T.mgC; have mTuple := T.mTuple; have hr_sorted := hr.mono (by decide : 1 ≤ 3)
    refine ⟨_, (pss_cons (ps_if (PW.pt (pw_or (pt_not (pt_val (pe_callB (k_isi K) (by rfl) mIsi (by decide +kernel) (pa_cons (pv 0) (pa_cons (pe_glob (v := .ref _) rfl mg_Policy rfl) pa_nil))))) (pw_or1 (pt_not (pt_val (pe_callB (k_isi K) (by rfl) mIsi (by decide +kernel) (pa_cons (fldK K (pv 0)) (pa_cons (pe_glob (v := .ref _) rfl mg_NameSet rfl) pa_nil))))))))
        (pss_one (ps_ret pe_bl)) pss_nil)
      (pss_cons (ps_if (pt_cmpR (neD K hr) (fldK K (fldK K (pv 0))) (pe_cal c_sorted hr_sorted pass0 (pa_cons (pv 2) pa_nil)) (nomark _))
        (pss_one (ps_ret pe_bl)) pss_nil)
      (pss_one (ps_ret (pe_cmpR op_eq (pe_callTy (call_strK K Cb Cn hr pass0) (by rfl) mStr (by decide +kernel) (pa_cons (pv 0) pa_nil)) (pe_join pe_str (pe_op op_cat (pe_lst (pa_cons (pv 1) pa_nil)) (pe_callTy (k_list K) (by rfl) mList (by decide +kernel) (pa_cons (pe_cal c_sorted hr_sorted pass0 (pa_cons (pv 2) pa_nil)) pa_nil)))) (nomark _)))))), ?_⟩
    refine ⟨_, rfl, _, _, _, _, true, rfl, .own Cb, B.isi h1, B.isb, _, rfl, iteF ?_⟩
    refine ⟨_, rfl, p, C, dx, _, _, rfl, h1, B.ins.cl, B.nM, flK_get q, _, _, _, _, true, rfl, .own Cn, T.isi n1, T.ins.me, _, rfl, iteF ?_⟩
    refine ⟨_, rfl, p, C, dx, _, _, rfl, h1, B.ins.cl, B.nM, flK_get q, q, Cn, dq, _, _, rfl, n1, T.ins.cl, T.nM, flM_get t, _, rfl, d, zs, rfl, hd, by omega, fun u ys H1 so pm h3 s1 => ?_⟩
    obtain rfl := sorted_is up nd m so pm
    refine ⟨_, _, .tup (.of (s1 _ _ n2)) (dpS ys), .tup (.of h3) (dpS ys), shT ok, shT ok, _, rfl, ?_⟩
    show if (!PyData.eqvAll _ _) = true then _ else _
    rw [eqvS]
    refine iteNS rfl ?_
    have nmy : ∀ z ∈ ys, IsName z := fun z hz => nm z ((m z).mp hz)
    have ly : ys.length ≤ 16 := by rw [pm.length_eq]; exact hl
    refine ⟨_, rfl, C, wd, O, p, dx, _, rfl, s1 _ _ h1, C, p, wd, ys, rfl, B, ⟨dx, q, s1 _ _ h1, N.same s1⟩, O.len, ly, fun z hz => (nmy z hz).len, fun H2 s2 => ⟨polT wd ys, rfl, ?_⟩⟩
    have s12 := s1.trans s2
    refine ⟨⟨_, rfl⟩, _, rfl, (by show 1 ≤ sizeLine; decide), fun l1 nl1 => ?_⟩
    have e1 := Same.new (o := .lst [.str wd]) nl1
    refine ⟨_, rfl, d, zs, rfl, SameL (s12.trans e1) hd, by omega, fun u2 y2 H3 so2 pm2 h4 s4 => ?_⟩
    have ey := sorted_is up nd m so2 pm2
    rw [ey] at h4
    refine ⟨u2, _, rfl, .inr (.of h4), fun l2 nl2 => ?_⟩
    have e2 := Same.new (o := .lst (ys.map V.str)) nl2
    have hl1 := e2 _ _ (s4 _ _ (upd_same (H := H2) (a := l1) (o := .lst [.str wd])))
    refine ⟨l1, l2, _, _, rfl, rfl, hl1, upd_same, ?_, fun l3 nl3 => ?_⟩
    · rw [List.length_map]
      exact Nat.le_trans (by show 1 + ys.length ≤ 17; omega) (by decide)
    have a := sum_le (k := 8) (ys := wd :: ys) fun y hy => by
      rcases List.mem_cons.mp hy with rfl | hy
      · exact O.len
      · exact (nmy y hy).len
    have c1 : (" " : Str).length = 1 := by decide +kernel
    have big : (5000 : Nat) < sizeLine := by decide
    have ll : (wd :: ys).length = ys.length + 1 := rfl
    refine ⟨_, l3, wd :: ys, rfl, rfl, .inl (.of upd_same), (by rw [c1]; omega), ?_⟩
    refine ⟨rfl, ?_⟩
    show Q (.bl (decide (V.str (polT wd ys) = V.str (polT wd ys)))) _
    rw [decide_eq_true rfl]
    exact k _ (((s12.trans e1).trans s4).trans (e2.trans (Same.new nl3)))
end
end Mf
namespace Mf
open PySem L2
/-- a policy of the law: where it stands, its class, where its marks are due -/
structure Rl where
  p : Addr
  C : Addr
  a : Addr
  wd : Str
  ms : List Str
  zs : List Str
section
variable {P : Program} {w : World} {K : PySem.W.Frag} {mg : Str → Option Value} {base : Heap} {Cn Cb C : Addr}
structure RlOk (P : Program) (w : World) (K : PySem.W.Frag) (mg : Str → Option Value) (base : Heap) (Cb Cn : Addr) (cl : List Addr) (st : List Str) (H : Hp) (r : Rl) : Prop where
  c : r.C ∈ cl
  o : PoO P w K mg base Cb Cn r.C r.wd
  pol : Pol r.C Cn H r.p r.ms
  sub : r.zs.Sublist st
  m : ∀ z, z ∈ r.ms ↔ z ∈ r.zs
theorem RlOk.same {cl : List Addr} {st : List Str} {H H' : Hp} {r : Rl} (x : RlOk P w K mg base Cb Cn cl st H r) (s : Same H H') : RlOk P w K mg base Cb Cn cl st H' r := ⟨x.c, x.o, x.pol.same s, x.sub, x.m⟩
theorem Pol.putL {H : Hp} {p l : Addr} {ms : List Str} {xs : List V} {o : HO} (h : Pol C Cn H p ms) (e : H l = some (.lst xs)) : Pol C Cn (upd H l o) p ms := by
  obtain ⟨dx, q, a, dq, t, n1, n2, c⟩ := h
  exact ⟨dx, q, by rw [upd_ne (fun z => by rw [z, e] at a; cases a)]; exact a, dq, t, by rw [upd_ne (fun z => by rw [z, e] at n1; cases n1)]; exact n1, by rw [upd_ne (fun z => by rw [z, e] at n2; cases n2)]; exact n2, c⟩
theorem RlOk.putL {cl : List Addr} {st : List Str} {H : Hp} {r : Rl} {l : Addr} {xs : List V} {o : HO} (x : RlOk P w K mg base Cb Cn cl st H r) (e : H l = some (.lst xs)) : RlOk P w K mg base Cb Cn cl st (upd H l o) r := ⟨x.c, x.o, x.pol.putL e, x.sub, x.m⟩
theorem pol_same {H H' : Hp} {p dx : Addr} (hp : H p = none) (hd : H dx = none) (kp : ∀ b o, b ≠ p → (upd (upd H dx (.own p)) p (.ins C dx [])) b = some o → H' b = some o) : Same H H' :=
  fun b o e => kp b o (ne_of_none e hp) ((ns_grow hp hd) b o e)
/-- all that the law calls of the classes -/
structure PoA (P : Program) (w : World) (K : PySem.W.Frag) (mg : Str → Option Value) (base : Heap) (Cn Cb Cc Ct Ce : Addr) : Prop where
  T : NsC K mg Cn
  c : PoO P w K mg base Cb Cn Cc "careful"
  t : PoO P w K mg base Cb Cn Ct "trail"
  e : PoO P w K mg base Cb Cn Ce "eager"
  mkc : CalC P w K mg base CX0 3 "CarefulPolicy" Cc ["self"] (spPolI K Cc Cn) []
  mkt : CalC P w K mg base CX0 3 "TrailPolicy" Ct ["self"] (spPolI K Ct Cn) []
  mke : CalC P w K mg base CX0 3 "EagerPolicy" Ce ["self", "marks"] (spEagI K Ce Cn) []
  mk0 : ∃ t : Addr, CalC P w K mg base CX0 3 "EagerPolicy" Ce ["self", "marks"] (spEagI K Ce Cn) [.ref t] ∧ ∀ H, ArgS K Cn H (.ref t) []
  mkk : ∃ (f : Addr) (fd : FuncData) (its : List Value) (d : List V), L2.Mk K Ce f ∧ FnOk P w K mg base CX0 3 f fd ["self", "marks"] (spEagI K Ce Cn) ∧ KBn K fd ["self", "marks"] 1 ["marks"] (fun us ws => us ++ ws) (fun vs zs => vs ++ zs)
  mk1 : CalN P w K mg base Cn []
  gc : mg "CarefulPolicy" = some (.ref Cc)
  gt : mg "TrailPolicy" = some (.ref Ct)
  ge : mg "EagerPolicy" = some (.ref Ce)
  nf : ∀ C ∈ [Cc, Ct, Ce], ∀ D ∈ [Cc, Ct, Ce], PySem.W.notFirst K C (.ref D) = true
  kS : PySem.W.kitOne K (.type "str") (.ref Cb) = some false
  kN : PySem.W.kitOne K (.ref Cn) (.ref Cb) = some false
/-! ### the law -/
abbrev sLaw : Stmt := top 16
theorem scLaw : FnScope ["_law_script", "_law_source_here", "_law_stock", "_law_passed", "_law_name_here", "_law_kept", "_law_rules", "_law_words", "_law_marks_due", "_law_twins", "_law_k", "_law_one", "_law_other", "_law_rule", "_law_word", "_law_marked", "_law_m", "_law_due"] ["_law_script"] (defScope sLaw) := ⟨rfl, rfl, rfl, by decide +kernel, rfl, by decide +kernel, by decide +kernel⟩
set_option maxHeartbeats 4000000 in
theorem ok_law {Cc Ct Ce : Addr} {f : Addr} {fd : FuncData} (F : Fun K "law" "law" sLaw f fd) (A : PoA P w K mg base Cn Cb Cc Ct Ce) (mList : mg "list" = none) (mZip : mg "zip" = none) (mRange : mg "range" = none) (c_source : Cal P w K mg base CX0 1 "_law_source" ["_law_script"] (spSource K)) (c_draw : Cal P w K mg base CX0 1 "_law_draw" psD spDraw)
    (c_names : Cal P w K mg base CX0 3 "_law_names" ["_law_source_here", "_law_many"] spNames) (c_subset : Cal P w K mg base CX0 2 "_law_subset" ["_law_source_here", "_law_row"] (spSubset K))
    (c_sorted : Cal P w K mg base CX0 1 "_law_sorted" ["_law_names_here"] (spSorted K)) (c_truths : Cal P w K mg base CX0 1 "_law_truths" ["_law_found", "_law_due"] spTruths) (c_is : Cal P w K mg base CX0 4 "_law_is" ["_law_rule", "_law_word", "_law_marked"] (spIs P w K mg base Cb Cn)) :
    FnOk P w K mg base CX0 6 f fd ["_law_script"] (spLaw K) := by
  refine F.ok scLaw (fun vs H Q E h => ?_) (fun cdv A' outer s H vs Q E hr h => ?_)
  · obtain ⟨a, ns, rfl, _⟩ := h
    rfl
  · obtain ⟨a, ns, rfl, hs, hl, k⟩ := h
    obtain ⟨T, Oc, Ot, Oe, mkc, mkt, mke, ⟨t0, mk0, a0⟩, ⟨fk, fdk, _, _, Mk, Fk, Bk⟩, mk1, gc, gt, ge, nf, kS, kN⟩ := A
    have mTuple := T.mTuple; have mLen := T.mLen; have mIsi := T.mIsi; have mg_CarefulPolicy := gc; have mg_TrailPolicy := gt; have mg_EagerPolicy := ge
    have hr1 : Room 1 _ := hr.mono (by decide : 1 ≤ 5); have hr2 : Room 2 _ := hr.mono (by decide : 2 ≤ 5); have hr3 : Room 3 _ := hr.mono (by decide : 3 ≤ 5); have hr4 : Room 4 _ := hr.mono (by decide : 4 ≤ 5)
    have hr_source := hr1; have hr_draw := hr1; have hr_sorted := hr1; have hr_truths := hr1; have hr_subset := hr2; have hr_names := hr3; have hr_is := hr4
    refine ⟨_, (pss_cons (ps_set (i := 1) scLaw.nd rfl (by first | exact Or.inl rfl | exact Or.inr rfl) (pe_cal c_source hr_source pass0 (pa_cons (pv 0) pa_nil)))
      (pss_cons (ps_set (i := 2) scLaw.nd rfl (by first | exact Or.inl rfl | exact Or.inr rfl) (pe_cal c_names hr_names pass0 (pa_cons (pv 1) (pa_cons pe_int pa_nil))))
      (pss_cons (ps_par (i := 11) (j := 12) (by rfl) scLaw.nd rfl rfl (by decide) rfl rfl (pa_cons (pe_cal c_subset hr_subset pass0 (pa_cons (pv 1) (pa_cons (pv 2) pa_nil))) (pa_cons (pe_cal c_subset hr_subset pass0 (pa_cons (pv 1) (pa_cons (pv 2) pa_nil))) pa_nil)) (by rfl))
      (pss_cons (ps_set (i := 3) scLaw.nd rfl (by first | exact Or.inl rfl | exact Or.inr rfl) (pe_lst pa_nil))
      (pss_cons (ps_for PassesOwn.never rfl (pi_list (pe_op op_cat (pv 11) (pe_cal c_subset hr_subset pass0 (pa_cons (pv 1) (pa_cons (pv 11) pa_nil))))) (pg_name (i := 4) scLaw.nd rfl (by first | exact Or.inl rfl | exact Or.inr rfl))
        (pss_one (ps_expr (pe_bm PySem.F.plainAttrs_list PySem.F.slot_list_insert PySem.F.type_list_insert mt_insert (pv 3) (pa_cons (pe_cal c_draw hr_draw pass0 (pa_cons (pv 1) (pa_cons (pe_op op_add (pe_callB (k_len K) (by rfl) mLen (by decide +kernel) (pa_cons (pv 3) pa_nil)) pe_int) pa_nil))) (pa_cons (pv 4) pa_nil))))))
      (pss_cons (ps_set (i := 5) scLaw.nd rfl (by first | exact Or.inl rfl | exact Or.inr rfl) (pe_callTy (k_list K) (by rfl) mList (by decide +kernel) (pa_cons (pv 3) pa_nil)))
      (pss_cons (ps_set (i := 6) scLaw.nd rfl (by first | exact Or.inl rfl | exact Or.inr rfl) (pe_lst (pa_cons (pe_mkc0 mkc hr4 pass0) (pa_cons (pe_mkc0 mkt hr4 pass0) (pa_cons (pe_mkc0 mk0 hr4 pass0) (pa_cons (pe_mkc mke hr4 pass0 (pa_cons (pv 3) pa_nil)) (pa_cons (pe_mkc mke hr4 pass0 (pa_cons (pe_mkc mk1 hr2 pass0 (pa_cons (pv 12) pa_nil)) pa_nil)) pa_nil)))))))
      (pss_cons (ps_if (pt_cmpR (neD K hr) (pv 3) (pv 5) (nomark _))
        (pss_one (ps_ret pe_bl)) pss_nil)
      (pss_cons (ps_expr (pe_bm0 PySem.F.plainAttrs_list PySem.F.slot_list_clear PySem.F.type_list_clear mt_clear (pv 3)))
      (pss_cons (ps_set (i := 7) scLaw.nd rfl (by first | exact Or.inl rfl | exact Or.inr rfl) (pe_lst (pa_cons pe_str (pa_cons pe_str (pa_cons pe_str (pa_cons pe_str (pa_cons pe_str pa_nil)))))))
      (pss_cons (ps_set (i := 8) scLaw.nd rfl (by first | exact Or.inl rfl | exact Or.inr rfl) (pe_lst (pa_cons (pe_lst pa_nil) (pa_cons (pe_lst pa_nil) (pa_cons (pe_lst pa_nil) (pa_cons (pv 11) (pa_cons (pv 12) pa_nil)))))))
      (pss_cons (ps_for PassesOwn.never rfl (pi_zip3 (by rfl) mZip (pa_cons (pv 6) (pa_cons (pv 7) (pa_cons (pv 8) pa_nil)))) (pg_tup rfl (pgs_cons (pg_name (i := 13) scLaw.nd rfl (by first | exact Or.inl rfl | exact Or.inr rfl)) (pgs_cons (pg_name (i := 14) scLaw.nd rfl (by first | exact Or.inl rfl | exact Or.inr rfl)) (pgs_cons (pg_name (i := 15) scLaw.nd rfl (by first | exact Or.inl rfl | exact Or.inr rfl)) pgs_nil))))
        (pss_one (ps_if (PW.pt (pw_or (pt_not (pt_val (pe_cal c_is hr_is pass0 (pa_cons (pv 13) (pa_cons (pv 14) (pa_cons (pv 15) pa_nil)))))) (pw_or (pt_cmpR (om_eqK K Cb Cn hr2 pass0) (pv 13) (pv 14) (nomark _)) (pw_or1 (pt_cmpR (om_eqK K Cb Cn hr2 pass0) (pv 13) (fldK K (pv 13)) (nomark _))))))
          (pss_one (ps_ret pe_bl)) pss_nil)))
      (pss_cons (ps_set (i := 9) scLaw.nd rfl (by first | exact Or.inl rfl | exact Or.inr rfl) (pe_lst (pa_cons (pe_mkc0 mkc hr4 pass0) (pa_cons (pe_mkc0 mkt hr4 pass0) (pa_cons (pe_mkc mke hr4 pass0 (pa_cons (pe_lst pa_nil) pa_nil)) (pa_cons (pe_mkc mke hr4 pass0 (pa_cons (pe_callTy (k_tuple K) (by rfl) mTuple (by decide +kernel) (pa_cons (pv 11) pa_nil)) pa_nil)) (pa_cons (pe_makeK0 Mk Fk hr4 rfl ge Bk pass0 (pk_cons (pv 12) pk_nil)) pa_nil)))))))
      (pss_cons (ps_for PassesOwn.never rfl (pi_range1 (by rfl) mRange (pa_cons pe_int pa_nil)) (pg_name (i := 10) scLaw.nd rfl (by first | exact Or.inl rfl | exact Or.inr rfl))
        (pss_one (ps_for PassesOwn.never rfl (pi_range1 (by rfl) mRange (pa_cons pe_int pa_nil)) (pg_name (i := 16) scLaw.nd rfl (by first | exact Or.inl rfl | exact Or.inr rfl))
          (C8.pss_cut (ps_set (i := 17) scLaw.nd rfl (by first | exact Or.inl rfl | exact Or.inr rfl) (pe_and (pe_cmpR op_eq (pe_ix (ixl K) (pv 7) (pv 10) (fun _ _ => rfl)) (pe_ix (ixl K) (pv 7) (pv 16) (fun _ _ => rfl)) (nomark _)) (pe_one (pe_cmpR (eqD K hr) (pe_cal c_sorted hr_sorted pass0 (pa_cons (pe_ix (ixl K) (pv 8) (pv 10) (fun _ _ => rfl)) pa_nil)) (pe_cal c_sorted hr_sorted pass0 (pa_cons (pe_ix (ixl K) (pv 8) (pv 16) (fun _ _ => rfl)) pa_nil)) (nomark _)))))
          (pss_one (ps_if (pt_not (pt_val (pe_cal c_truths hr_truths pass0 (pa_cons (pe_lst (pa_cons (pe_cmpR (om_eqK K Cb Cn hr2 pass0) (pe_ix (ixl K) (pv 6) (pv 10) (fun _ _ => rfl)) (pe_ix (ixl K) (pv 9) (pv 16) (fun _ _ => rfl)) (nomark _)) (pa_cons (pe_cmpR (om_neK K Cb Cn hr3 pass0) (pe_ix (ixl K) (pv 6) (pv 10) (fun _ _ => rfl)) (pe_ix (ixl K) (pv 9) (pv 16) (fun _ _ => rfl)) (nomark _)) pa_nil))) (pa_cons (pe_lst (pa_cons (pv 17) (pa_cons (pe_notT (pv 17)) pa_nil))) pa_nil)))))
            (pss_one (ps_ret pe_bl)) pss_nil))))))
      (pss_cons (ps_if (PW.pt (pw_or (pt_not (pt_val (pe_callB (k_isi K) (by rfl) mIsi (by decide +kernel) (pa_cons (pe_ix (ixl K) (pv 6) pe_int (fun _ _ => rfl)) (pa_cons (pe_glob (v := .ref _) rfl mg_CarefulPolicy rfl) pa_nil))))) (pw_or1 (pt_not (pt_val (pe_callB (k_isi K) (by rfl) mIsi (by decide +kernel) (pa_cons (pe_ix (ixl K) (pv 6) pe_int (fun _ _ => rfl)) (pa_cons (pe_glob (v := .ref _) rfl mg_TrailPolicy rfl) pa_nil))))))))
        (pss_one (ps_ret pe_bl)) pss_nil)
      (pss_one (ps_ret (pe_callB (k_isi K) (by rfl) mIsi (by decide +kernel) (pa_cons (pe_ix (ixl K) (pv 6) pe_int (fun _ _ => rfl)) (pa_cons (pe_glob (v := .ref _) rfl mg_EagerPolicy rfl) pa_nil)))))))))))))))))))), ?_⟩
    refine ⟨_, rfl, a, ns, rfl, hs, hl, fun g H1 _ s1 S1 => ?_⟩
    refine ⟨_, rfl, g, 6, 900000000, rfl, by decide, S1.mono (by decide), fun st zs H2 len nd nm nst h2 k2 S2 => ?_⟩
    have sg : st ≠ g := S1.ne nst
    refine ⟨_, rfl, _, rfl, g, st, zs, 800000000, rfl, sg, .of h2, by omega, S2.mono (by omega), fun p1 one H3 b1 np1 h3 k3 S3 => ?_⟩
    have p1g : p1 ≠ g := S2.ne np1
    refine ⟨_, rfl, _, rfl, g, st, zs, 700000000, rfl, sg, .of (k3 _ _ sg h2), by omega, S3.mono (by omega), fun p2 oth H4 b2 np2 h4 k4 S4 => ?_⟩
    have p2g : p2 ≠ g := S3.ne np2
    refine ⟨_, _, rfl, ?_⟩
    have h3 := k4 _ _ p1g h3
    have S5 := S4
    clear k2 k3 k4 h2 S2 S3 S4
    have l1 : one.length ≤ 6 := by have := b1.length_le; omega
    have l2 : oth.length ≤ 6 := by have := b2.length_le; omega
    have d1 : one.Nodup := b1.nodup nd
    have d2 : oth.Nodup := b2.nodup nd
    -- what is passed
    refine ⟨(by show 0 ≤ sizeLine; decide), fun pp npp => ?_⟩
    have ppg : pp ≠ g := S5.ne npp
    have h3p := (Same.new (o := .lst []) npp) _ _ h3
    have h4p := (Same.new (o := .lst []) npp) _ _ h4
    have Sp := S5.new (o := .lst []) npp
    have hpp : (upd H4 pp (.lst [])) pp = some (.lst []) := upd_same
    have n1 : p1 ≠ pp := Ne.symm (ne_none npp h3)
    have n2 : p2 ≠ pp := Ne.symm (ne_none npp h4)
    generalize upd H4 pp (.lst []) = H6 at h3p h4p Sp hpp
    refine ⟨_, rfl, _, rfl, _, rfl, g, p1, one, 600000000, rfl, p1g, .of h3p, by omega, Sp.mono (by omega), fun p3 sub H7 b3 np3 h5 k7 S7 => ?_⟩
    have h3q := k7 _ _ p1g h3p
    have h4q := k7 _ _ p2g h4p
    have hpq := k7 _ _ ppg hpp
    have l3 : sub.length ≤ 6 := by have := b3.length_le; omega
    have ec : one.map V.str ++ sub.map V.str = (one ++ sub).map V.str := by rw [List.map_append]
    refine ⟨p1, p3, _, _, rfl, rfl, h3q, h5, ?_, fun D nD => ⟨D, rfl, ⟨_, .of upd_same⟩, ?_⟩⟩
    · rw [List.length_map, List.length_map]
      exact Nat.le_trans (by omega : _ ≤ 12) (by decide)
    rw [ec]
    have Dg : D ≠ g := S7.ne nD
    have n1D : p1 ≠ D := Ne.symm (ne_none nD h3q)
    have n2D : p2 ≠ D := Ne.symm (ne_none nD h4q)
    have npD : pp ≠ D := Ne.symm (ne_none nD hpq)
    refine for_it walk_list (fun i σ H' => ∃ (xs : List Str) (v4 : Option V), σ = [some (.ref a), some (.ref g), some (.ref st), some (.ref pp), v4, none, none, none, none, none, none, some (.ref p1), some (.ref p2), none, none, none, none, none] ∧ xs.length = i ∧ (∀ z, z ∈ xs ↔ z ∈ (one ++ sub).take i) ∧ H' pp = some (.lst (xs.map V.str)) ∧ H' p1 = some (.lst (one.map V.str)) ∧ H' p2 = some (.lst (oth.map V.str)) ∧ H' D = some (.lst ((one ++ sub).map V.str)) ∧ Src H' g (1000 + (100 - i)))
      ⟨[], none, rfl, rfl, (by simp), (Same.new nD) _ _ hpq, (Same.new nD) _ _ h3q, (Same.new nD) _ _ h4q, upd_same, (S7.new nD).mono (by omega)⟩ (fun i σ H' _ q => .of q.choose_spec.choose_spec.2.2.2.2.2.2.1) ?_ ?_
    · rintro i x σ _ H8 hi ⟨xs, v4, rfl, lx, mx, hP, hA, hB, hD, S8⟩ ⟨rfl, hx⟩
      rw [List.getElem?_map] at hx
      obtain ⟨z, hz, rfl⟩ := Option.map_eq_some_iff.mp hx
      rw [List.length_map, List.length_append] at hi
      refine ⟨_, rfl, .inl ⟨rfl, _, .of hP⟩, _, rfl, _, rfl, pp, _, rfl, .inl (.of hP), _, _, rfl, rfl, g, _, 1000 + (100 - (i + 1)), rfl, by omega, ?_, S8.mono (by omega), fun at_ H9 w0 w1 k9 S9 => ?_⟩
      · rw [List.length_map]
        exact Nat.lt_trans (by omega : (((xs.length : Nat) : Int) + 1).natAbs < 14) (by decide)
      rw [List.length_map] at w1
      refine ⟨_, rfl, pp, _, at_, _, rfl, rfl, k9 _ _ ppg hP, ?_, w0, by omega, xs.take at_.toNat ++ [z] ++ xs.drop at_.toNat, _, rfl, ?_, fun y => ?_, ?_, ?_, ?_, ?_, S9.put ppg⟩
      · rw [List.length_map]; exact Nat.lt_of_lt_of_le (by omega : xs.length < 14) (by decide)
      · rw [List.length_append, List.length_append, List.length_take, List.length_drop]
        show _ + 1 + _ = _
        omega
      · rw [List.take_add_one, hz]
        have e := mx y
        rw [← List.take_append_drop at_.toNat xs, List.mem_append] at e
        simp only [List.mem_append, List.mem_singleton, Option.toList_some]
        constructor
        · rintro ((h | h) | h)
          · exact .inl (e.mp (.inl h))
          · exact .inr h
          · exact .inl (e.mp (.inr h))
        · rintro (h | h)
          · rcases e.mpr h with h | h
            · exact .inl (.inl h)
            · exact .inr h
          · exact .inl (.inr h)
      · rw [upd_same, List.map_append, List.map_append, List.map_take, List.map_drop]; rfl
      · rw [upd_ne n1]; exact k9 _ _ p1g hA
      · rw [upd_ne n2]; exact k9 _ _ p2g hB
      · rw [upd_ne (Ne.symm npD)]; exact k9 _ _ Dg hD
    rintro σ H8 ⟨xs, v4, rfl, lx, mx, hP, hA, hB, _, S8⟩
    rw [List.length_map, List.length_append] at lx
    rw [List.length_map, List.take_length] at mx
    have mo : ∀ z, z ∈ xs ↔ z ∈ one := fun z => by
      rw [mx z, List.mem_append]
      exact ⟨fun h => h.elim id fun h => b3.subset h, .inl⟩
    have okO : ∀ z ∈ one, PyData.strOk z = true := fun z hz => (nm z (b1.subset hz)).ok
    have okX : ∀ z ∈ xs, PyData.strOk z = true := fun z hz => okO z ((mo z).mp hz)
    have okB : ∀ z ∈ oth, PyData.strOk z = true := fun z hz => (nm z (b2.subset hz)).ok
    clear k7 S7 h3q h4q hpq nD n1D n2D npD Dg h3p h4p hpp Sp h5 np3
    refine ⟨_, rfl, pp, _, rfl, .inl (.of hP), fun kl nkl => ?_⟩
    have sk := Same.new (o := .lst (xs.map V.str)) nkl
    have hK : (upd H8 kl (.lst (xs.map V.str))) kl = some (.lst (xs.map V.str)) := upd_same
    have hP := sk _ _ hP
    have hA := sk _ _ hA
    have hB := sk _ _ hB
    generalize upd H8 kl (.lst (xs.map V.str)) = H9 at hK hP hA hB
    -- the policies
    intro q1 dx1 nq1 ndx1 _
    refine ⟨q1, dx1, rfl, upd_same, fun r1 I1 e1 N1 kp1 => ⟨rfl, ?_⟩⟩
    have t1 := pol_same nq1 ndx1 kp1
    intro q2 dx2 nq2 ndx2 _
    refine ⟨q2, dx2, rfl, upd_same, fun r2 I2 e2 N2 kp2 => ⟨rfl, ?_⟩⟩
    have t2 := pol_same nq2 ndx2 kp2
    intro q3 dx3 nq3 ndx3 _
    refine ⟨q3, dx3, .ref t0, [], rfl, upd_same, a0 _, by decide, by simp, fun r3 ms3 I3 e3 N3 m3 kp3 => ⟨rfl, ?_⟩⟩
    have t3 := pol_same nq3 ndx3 kp3
    refine ⟨_, rfl, ?_⟩
    intro q4 dx4 nq4 ndx4 _
    refine ⟨q4, dx4, .ref pp, xs, rfl, upd_same, .lst ((ns_grow nq4 ndx4) _ _ (t3 _ _ (t2 _ _ (t1 _ _ hP)))), by omega, okX, fun r4 ms4 I4 e4 N4 m4 kp4 => ⟨rfl, ?_⟩⟩
    have t4 := pol_same nq4 ndx4 kp4
    have t04 := ((t1.trans t2).trans t3).trans t4
    refine ⟨_, rfl, ?_⟩
    intro qn dxn nqn ndxn _
    refine ⟨qn, dxn, .ref p2, oth, rfl, upd_same, .lst ((ns_grow nqn ndxn) _ _ (t04 _ _ hB)), by omega, fun tn msn In upn mn en1 en2 kpn => ⟨rfl, ?_⟩⟩
    obtain ⟨Nn, tn4⟩ := ns_after (by omega) okB nqn ndxn upn mn en1 en2 kpn
    intro q5 dx5 nq5 ndx5 _
    refine ⟨q5, dx5, .ref qn, msn, rfl, upd_same, .own (Nn.same (ns_grow nq5 ndx5)), Nn.choose_spec.choose_spec.2.2.2.1, Nn.choose_spec.choose_spec.2.2.2.2, fun r5 ms5 I5 e5 N5 m5 kp5 => ⟨rfl, ?_⟩⟩
    have t5 := pol_same nq5 ndx5 kp5
    refine ⟨(by show 5 ≤ sizeLine; decide), fun lr nlr => ?_⟩
    have t6 := Same.new (o := .lst [.ref q1, .ref q2, .ref q3, .ref q4, .ref q5]) nlr
    have t46 := (tn4.trans t5).trans t6
    have t9L := t04.trans t46
    have o1 : Pol Cc Cn _ q1 [] := Pol.same ⟨dx1, r1, e1, N1⟩ (((t2.trans t3).trans t4).trans t46)
    have o2 : Pol Ct Cn _ q2 [] := Pol.same ⟨dx2, r2, e2, N2⟩ ((t3.trans t4).trans t46)
    have o3 : Pol Ce Cn _ q3 ms3 := Pol.same ⟨dx3, r3, e3, N3⟩ (t4.trans t46)
    have o4 : Pol Ce Cn _ q4 ms4 := Pol.same ⟨dx4, r4, e4, N4⟩ t46
    have o5 : Pol Ce Cn _ q5 ms5 := Pol.same ⟨dx5, r5, e5, N5⟩ t6
    have hL : (upd I5 lr (.lst [.ref q1, .ref q2, .ref q3, .ref q4, .ref q5])) lr = some (.lst [.ref q1, .ref q2, .ref q3, .ref q4, .ref q5]) := upd_same
    have hP := t9L _ _ hP
    have hK := t9L _ _ hK
    have hA := t9L _ _ hA
    have hB := t9L _ _ hB
    have nPL : lr ≠ pp := ne_none nlr ((t04.trans (tn4.trans t5)) _ _ ‹H9 pp = _›)
    generalize upd I5 lr (.lst [.ref q1, .ref q2, .ref q3, .ref q4, .ref q5]) = HL at t9L o1 o2 o3 o4 o5 hL hP hK hA hB t6 t46
    have n1 : p1 ≠ pp := n1
    have n2 : p2 ≠ pp := n2
    -- what was passed stays, and is cleared
    refine ⟨_, rfl, _, rfl, _, _, .lst (.of hP) (dpS xs), .lst (.of hK) (dpS xs), shL okX, shL okX, _, rfl, ?_⟩
    show if (!PyData.eqvAll _ _) = true then _ else _
    rw [eqvS]
    refine iteNS rfl ?_
    refine ⟨_, rfl, .inl ⟨rfl, _, .of hP⟩, pp, _, rfl, rfl, hP, ?_⟩
    have o1 := o1.putL (o := .lst []) hP; have o2 := o2.putL (o := .lst []) hP; have o3 := o3.putL (o := .lst []) hP; have o4 := o4.putL (o := .lst []) hP; have o5 := o5.putL (o := .lst []) hP
    have hL : (upd HL pp (.lst [])) lr = some (.lst [.ref q1, .ref q2, .ref q3, .ref q4, .ref q5]) := by rw [upd_ne nPL]; exact hL
    have hA : (upd HL pp (.lst [])) p1 = some (.lst (one.map V.str)) := by rw [upd_ne n1]; exact hA
    have hB : (upd HL pp (.lst [])) p2 = some (.lst (oth.map V.str)) := by rw [upd_ne n2]; exact hB
    generalize upd HL pp (.lst []) = HC at o1 o2 o3 o4 o5 hL hA hB
    refine ⟨(by show 5 ≤ sizeLine; decide), fun lw nlw => ?_⟩
    have u1 := Same.new (o := .lst [.str "careful", .str "trail", .str "eager", .str "eager", .str "eager"]) nlw
    refine ⟨(by show 0 ≤ sizeLine; decide), fun a1 na1 => ⟨(by show 0 ≤ sizeLine; decide), fun a2 na2 => ⟨(by show 0 ≤ sizeLine; decide), fun a3 na3 => ⟨_, rfl, _, rfl, (by show 5 ≤ sizeLine; decide), fun lm nlm => ?_⟩⟩⟩⟩
    have u2 := Same.new (o := .lst []) na1
    have u3 := Same.new (o := .lst []) na2
    have u4 := Same.new (o := .lst []) na3
    have u5 := Same.new (o := .lst [.ref a1, .ref a2, .ref a3, .ref p1, .ref p2]) nlm
    have uu := (((u1.trans u2).trans u3).trans u4).trans u5
    obtain ⟨R, lenR, eC, eZ, eR, eW, eM, okR, adR⟩ : ∃ R : List Rl, R.length = 5 ∧ R.map (fun r => r.C) = [Cc, Ct, Ce, Ce, Ce] ∧ R.map (fun r => r.zs) = [[], [], [], one, oth] ∧ R.map (fun r => V.ref r.p) = [.ref q1, .ref q2, .ref q3, .ref q4, .ref q5] ∧ R.map (fun r => V.str r.wd) = [.str "careful", .str "trail", .str "eager", .str "eager", .str "eager"] ∧ R.map (fun r => V.ref r.a) = [.ref a1, .ref a2, .ref a3, .ref p1, .ref p2] ∧
        (∀ r ∈ R, RlOk P w K mg base Cb Cn [Cc, Ct, Ce] zs (upd (upd (upd (upd (upd HC lw (.lst [.str "careful", .str "trail", .str "eager", .str "eager", .str "eager"])) a1 (.lst [])) a2 (.lst [])) a3 (.lst [])) lm (.lst [.ref a1, .ref a2, .ref a3, .ref p1, .ref p2])) r) ∧
        ∀ r ∈ R, (upd (upd (upd (upd (upd HC lw (.lst [.str "careful", .str "trail", .str "eager", .str "eager", .str "eager"])) a1 (.lst [])) a2 (.lst [])) a3 (.lst [])) lm (.lst [.ref a1, .ref a2, .ref a3, .ref p1, .ref p2])) r.a = some (.lst (r.zs.map V.str)) := by
      refine ⟨[⟨q1, Cc, a1, "careful", [], []⟩, ⟨q2, Ct, a2, "trail", [], []⟩, ⟨q3, Ce, a3, "eager", ms3, []⟩, ⟨q4, Ce, p1, "eager", ms4, one⟩, ⟨q5, Ce, p2, "eager", ms5, oth⟩], rfl, rfl, rfl, rfl, rfl, rfl, fun r hr => ?_, fun r hr => ?_⟩
      · simp only [List.mem_cons, List.not_mem_nil, or_false] at hr
        rcases hr with rfl | rfl | rfl | rfl | rfl
        · exact ⟨by simp, Oc, o1.same uu, List.nil_sublist _, fun _ => .rfl⟩
        · exact ⟨by simp, Ot, o2.same uu, List.nil_sublist _, fun _ => .rfl⟩
        · exact ⟨by simp, Oe, o3.same uu, List.nil_sublist _, m3⟩
        · exact ⟨by simp, Oe, o4.same uu, b1, fun z => (m4 z).trans (mo z)⟩
        · exact ⟨by simp, Oe, o5.same uu, b2, fun z => (m5 z).trans (mn z)⟩
      · simp only [List.mem_cons, List.not_mem_nil, or_false] at hr
        rcases hr with rfl | rfl | rfl | rfl | rfl
        · exact u5 _ _ (u4 _ _ (u3 _ _ upd_same))
        · exact u5 _ _ (u4 _ _ upd_same)
        · exact u5 _ _ upd_same
        · exact uu _ _ hA
        · exact uu _ _ hB
    have hR := uu _ _ hL
    have hW : (upd (upd (upd (upd (upd HC lw (.lst [.str "careful", .str "trail", .str "eager", .str "eager", .str "eager"])) a1 (.lst [])) a2 (.lst [])) a3 (.lst [])) lm (.lst [.ref a1, .ref a2, .ref a3, .ref p1, .ref p2])) lw = some (.lst [.str "careful", .str "trail", .str "eager", .str "eager", .str "eager"]) := u5 _ _ (u4 _ _ (u3 _ _ (u2 _ _ upd_same)))
    have hM : (upd (upd (upd (upd (upd HC lw (.lst [.str "careful", .str "trail", .str "eager", .str "eager", .str "eager"])) a1 (.lst [])) a2 (.lst [])) a3 (.lst [])) lm (.lst [.ref a1, .ref a2, .ref a3, .ref p1, .ref p2])) lm = some (.lst [.ref a1, .ref a2, .ref a3, .ref p1, .ref p2]) := upd_same
    have hA := uu _ _ hA
    have hB := uu _ _ hB
    generalize upd (upd (upd (upd (upd HC lw (.lst [.str "careful", .str "trail", .str "eager", .str "eager", .str "eager"])) a1 (.lst [])) a2 (.lst [])) a3 (.lst [])) lm (.lst [.ref a1, .ref a2, .ref a3, .ref p1, .ref p2]) = HM at okR adR hR hW hM hA hB
    rw [← eR] at hR
    rw [← eW] at hW
    rw [← eM] at hM
    clear okX okB okO mx mo lx t9L t46 t6 t5 t4 t3 t2 t1 tn4 t04 uu u1 u2 u3 u4 u5 o1 o2 o3 o4 o5 kp1 kp2 kp3 kp4 kp5 kpn
    -- the look at each
    refine ⟨_, rfl, _, rfl, _, rfl, lr, lw, lm, _, _, _, rfl, ⟨.of hR, .of hW, .of hM⟩, ?_⟩
    refine for_it (walk_zip3 (n := 5) (by rw [List.length_map]; exact lenR) (by rw [List.length_map]; exact lenR) (by rw [List.length_map]; exact lenR)) (fun i σ H' => ∃ (v13 v14 v15 : Option V), σ = [some (.ref a), some (.ref g), some (.ref st), some (.ref pp), v4, some (.ref kl), some (.ref lr), some (.ref lw), some (.ref lm), none, none, some (.ref p1), some (.ref p2), v13, v14, v15, none, none] ∧ Same HM H')
      ⟨none, none, none, rfl, Same.refl _⟩ (fun i σ H' _ q => ⟨.of (q.choose_spec.choose_spec.choose_spec.2 _ _ hR), .of (q.choose_spec.choose_spec.choose_spec.2 _ _ hW), .of (q.choose_spec.choose_spec.choose_spec.2 _ _ hM)⟩) ?_ ?_
    · rintro i x σ HN _ hi ⟨v13, v14, v15, rfl, sN⟩ ⟨Tp, x1, y1, z1, rfl, nT, rfl, hx, hy, hz⟩
      change (R.map fun r => V.ref r.p)[i]? = some x1 at hx
      change (R.map fun r => V.str r.wd)[i]? = some y1 at hy
      change (R.map fun r => V.ref r.a)[i]? = some z1 at hz
      rw [List.getElem?_map] at hx hy hz
      obtain ⟨r, hr, rfl⟩ := Option.map_eq_some_iff.mp hx
      rw [hr] at hy hz
      cases Option.some.inj hy
      cases Option.some.inj hz
      have rm := List.mem_of_getElem? hr
      have sT := sN.trans (Same.new (o := .tup [.ref r.p, .str r.wd, .ref r.a]) nT)
      have ok := (okR r rm).same sT
      have ad := sT _ _ (adR r rm)
      have O := ok.o
      have lz : r.zs.length ≤ 6 := by have := ok.sub.length_le; omega
      refine ⟨Tp, _, rfl, .of upd_same, rfl, _, _, rfl, _, _, rfl, _, _, rfl, rfl, ?_⟩
      generalize upd HN Tp (.tup [.ref r.p, .str r.wd, .ref r.a]) = HT at sT ok ad
      refine ⟨_, rfl, _, rfl, _, rfl, r.C, r.p, r.a, r.wd, r.ms, r.zs, rfl, O, ok.pol, .of ad, by omega, ok.sub.nodup nd, fun z hz => nm z (ok.sub.subset hz), ok.m, fun HU sU => ⟨_, rfl, iteF ?_⟩⟩
      have sM := sT.trans sU
      have ok := ok.same sU
      have B := O.b
      have hp := ok.pol
      have PP := hp
      obtain ⟨dx, q, h1, N⟩ := PP
      have NN := N
      obtain ⟨dq, t, nn1, _⟩ := NN
      refine ⟨_, rfl, _, rfl, r.C, r.wd, O, r.p, dx, _, rfl, h1, ⟨_, .base (.str _), O.bS⟩, r.C, r.p, r.wd, r.ms, _, false, rfl, B, hp, .inr ⟨_, .base (.str _), kS, rfl⟩, _, rfl, iteF ?_⟩
      refine ⟨_, rfl, _, rfl, r.p, r.C, dx, _, _, rfl, h1, B.ins.cl, B.nM, flK_get q, r.C, r.wd, O, r.p, dx, _, rfl, h1, ⟨_, T.isi nn1, O.bN⟩, r.C, r.p, r.wd, r.ms, _, false, rfl, B, hp, .inr ⟨_, T.isi nn1, kN, rfl⟩, _, rfl, iteF ?_⟩
      exact ⟨_, _, _, rfl, sM⟩
    rintro σ HN ⟨v13, v14, v15, rfl, sN⟩
    have hA := sN _ _ hA
    have hB := sN _ _ hB
    -- the twins
    intro q1 dx1 nq1 ndx1 _
    refine ⟨q1, dx1, rfl, upd_same, fun r1 I1 e1 N1 kp1 => ⟨rfl, ?_⟩⟩
    have t1 := pol_same nq1 ndx1 kp1
    intro q2 dx2 nq2 ndx2 _
    refine ⟨q2, dx2, rfl, upd_same, fun r2 I2 e2 N2 kp2 => ⟨rfl, ?_⟩⟩
    have t2 := pol_same nq2 ndx2 kp2
    refine ⟨(by show 0 ≤ sizeLine; decide), fun l0 nl0 => ?_⟩
    have t2' := Same.new (o := .lst []) nl0
    intro q3 dx3 nq3 ndx3 _
    refine ⟨q3, dx3, .ref l0, [], rfl, upd_same, .lst ((ns_grow nq3 ndx3) _ _ upd_same), by decide, by simp, fun r3 ms3 I3 e3 N3 m3 kp3 => ⟨rfl, ?_⟩⟩
    have t3 := pol_same nq3 ndx3 kp3
    have t03 := ((t1.trans t2).trans t2').trans t3
    refine ⟨_, rfl, p1, _, rfl, .inl ⟨.of (t03 _ _ hA), fun tq ntq => ?_⟩⟩
    have t3' := Same.new (o := .tup (one.map V.str)) ntq
    intro q4 dx4 nq4 ndx4 _
    refine ⟨q4, dx4, .ref tq, one, rfl, upd_same, .tup ((ns_grow nq4 ndx4) _ _ upd_same), by omega, fun z hz => (nm z (b1.subset hz)).ok, fun r4 ms4 I4 e4 N4 m4 kp4 => ⟨rfl, ?_⟩⟩
    have t4 := pol_same nq4 ndx4 kp4
    have t04 := (t03.trans t3').trans t4
    refine ⟨_, rfl, rfl, rfl, ?_⟩
    intro q5 dx5 nq5 ndx5 _
    refine ⟨q5, dx5, .ref p2, oth, rfl, upd_same, .lst ((ns_grow nq5 ndx5) _ _ (t04 _ _ hB)), by omega, fun z hz => (nm z (b2.subset hz)).ok, fun r5 ms5 I5 e5 N5 m5 kp5 => ⟨rfl, ?_⟩⟩
    have t5 := pol_same nq5 ndx5 kp5
    refine ⟨(by show 5 ≤ sizeLine; decide), fun lt nlt => ?_⟩
    have t6 := Same.new (o := .lst [.ref q1, .ref q2, .ref q3, .ref q4, .ref q5]) nlt
    obtain ⟨R', lenR', eC', eZ', eR', eW', okR'⟩ : ∃ R : List Rl, R.length = 5 ∧ R.map (fun r => r.C) = [Cc, Ct, Ce, Ce, Ce] ∧ R.map (fun r => r.zs) = [[], [], [], one, oth] ∧ R.map (fun r => V.ref r.p) = [.ref q1, .ref q2, .ref q3, .ref q4, .ref q5] ∧ R.map (fun r => V.str r.wd) = [.str "careful", .str "trail", .str "eager", .str "eager", .str "eager"] ∧
        ∀ r ∈ R, RlOk P w K mg base Cb Cn [Cc, Ct, Ce] zs (upd I5 lt (.lst [.ref q1, .ref q2, .ref q3, .ref q4, .ref q5])) r := by
      refine ⟨[⟨q1, Cc, 0, "careful", [], []⟩, ⟨q2, Ct, 0, "trail", [], []⟩, ⟨q3, Ce, 0, "eager", ms3, []⟩, ⟨q4, Ce, p1, "eager", ms4, one⟩, ⟨q5, Ce, p2, "eager", ms5, oth⟩], rfl, rfl, rfl, rfl, rfl, fun r hr => ?_⟩
      simp only [List.mem_cons, List.not_mem_nil, or_false] at hr
      rcases hr with rfl | rfl | rfl | rfl | rfl
      · exact ⟨by simp, Oc, Pol.same ⟨dx1, r1, e1, N1⟩ (((((t2.trans t2').trans t3).trans t3').trans t4).trans (t5.trans t6)), List.nil_sublist _, fun _ => .rfl⟩
      · exact ⟨by simp, Ot, Pol.same ⟨dx2, r2, e2, N2⟩ ((((t2'.trans t3).trans t3').trans t4).trans (t5.trans t6)), List.nil_sublist _, fun _ => .rfl⟩
      · exact ⟨by simp, Oe, Pol.same ⟨dx3, r3, e3, N3⟩ ((t3'.trans t4).trans (t5.trans t6)), List.nil_sublist _, m3⟩
      · exact ⟨by simp, Oe, Pol.same ⟨dx4, r4, e4, N4⟩ (t5.trans t6), b1, m4⟩
      · exact ⟨by simp, Oe, Pol.same ⟨dx5, r5, e5, N5⟩ t6, b2, m5⟩
    have sW := (sN.trans (t04.trans t5)).trans t6
    have hT : (upd I5 lt (.lst [.ref q1, .ref q2, .ref q3, .ref q4, .ref q5])) lt = some (.lst [.ref q1, .ref q2, .ref q3, .ref q4, .ref q5]) := upd_same
    generalize upd I5 lt (.lst [.ref q1, .ref q2, .ref q3, .ref q4, .ref q5]) = HW at okR' sW hT t6
    rw [← eR'] at hT
    have hR := sW _ _ hR
    have hW := sW _ _ hW
    have hM := sW _ _ hM
    have okR := fun r hr => (okR r hr).same sW
    have adR := fun r hr => sW _ _ (adR r hr)
    clear t6 t5 t4 t3' t3 t2' t2 t1 t03 t04 kp1 kp2 kp3 kp4 kp5 sW sN hA hB
    -- each with each
    refine ⟨5, rfl, by decide, by decide, ?_⟩
    refine for_range (lo := 0) (n := 5) (fun i σ H' => ∃ (v10 v16 v17 : Option V), σ = [some (.ref a), some (.ref g), some (.ref st), some (.ref pp), v4, some (.ref kl), some (.ref lr), some (.ref lw), some (.ref lm), some (.ref lt), v10, some (.ref p1), some (.ref p2), v13, v14, v15, v16, v17] ∧ Same HW H') ⟨none, none, none, rfl, Same.refl _⟩ ?_ ?_
    · rintro i σ H10 hi ⟨v10, v16, v17, rfl, s10⟩
      refine ⟨5, rfl, by decide, by decide, ?_⟩
      refine for_range (lo := 0) (n := 5) (fun j σ H' => ∃ (v16 v17 : Option V), σ = [some (.ref a), some (.ref g), some (.ref st), some (.ref pp), v4, some (.ref kl), some (.ref lr), some (.ref lw), some (.ref lm), some (.ref lt), some (.int (0 + (i : Nat))), some (.ref p1), some (.ref p2), v13, v14, v15, v16, v17] ∧ Same HW H') ⟨v16, v17, rfl, s10⟩ ?_ ?_
      · rintro j σ H11 hj ⟨v16, v17, rfl, s11⟩
        have hri : R[i]? = some R[i] := List.getElem?_eq_getElem (by omega)
        have hrj : R[j]? = some R[j] := List.getElem?_eq_getElem (by omega)
        have htj : R'[j]? = some R'[j] := List.getElem?_eq_getElem (by omega)
        generalize R[i] = r at hri
        generalize R[j] = q at hrj
        generalize R'[j] = t at htj
        have rm := List.mem_of_getElem? hri
        have qm := List.mem_of_getElem? hrj
        have tm := List.mem_of_getElem? htj
        have ewd : q.wd = t.wd := by
          have e1 := congrArg (·[j]?) (eW.trans eW'.symm)
          simp only [List.getElem?_map, hrj, htj, Option.map_some, Option.some.injEq, V.str.injEq] at e1
          exact e1
        have ezs : q.zs = t.zs := by
          have e1 := congrArg (·[j]?) (eZ.trans eZ'.symm)
          simp only [List.getElem?_map, hrj, htj, Option.map_some, Option.some.injEq] at e1
          exact e1
        have okr := okR r rm
        have okq := okR q qm
        have okt := okR' t tm
        have ir : ∀ {f : Rl → V} {l : Addr}, atI (R.map f) (0 + (i : Nat)) = some (f r) := by
          intro f l
          rw [show (0 + (i : Nat) : Int) = ((i : Nat) : Int) by omega]
          exact atI_nat (by rw [List.getElem?_map, hri]; rfl)
        have iq : ∀ {f : Rl → V}, atI (R.map f) (0 + (j : Nat)) = some (f q) := by
          intro f
          rw [show (0 + (j : Nat) : Int) = ((j : Nat) : Int) by omega]
          exact atI_nat (by rw [List.getElem?_map, hrj]; rfl)
        have it : ∀ {f : Rl → V}, atI (R'.map f) (0 + (j : Nat)) = some (f t) := by
          intro f
          rw [show (0 + (j : Nat) : Int) = ((j : Nat) : Int) by omega]
          exact atI_nat (by rw [List.getElem?_map, htj]; rfl)
        have lzr : r.zs.length ≤ 6 := by have := okr.sub.length_le; omega
        have lzq : q.zs.length ≤ 6 := by have := okq.sub.length_le; omega
        obtain ⟨dxr, qr, hr1', Nr⟩ := okr.pol
        obtain ⟨dxq, qq, hq1', Nq⟩ := okq.pol
        obtain ⟨dxt, qt, ht1', Nt⟩ := okt.pol
        obtain ⟨_, tr, _, _, upr, fewr, okmr⟩ := Nr
        obtain ⟨_, tq', _, _, upq, fewq, okmq⟩ := Nq
        obtain ⟨_, tt', _, _, upt, fewt, okmt⟩ := Nt
        have ems : q.ms = t.ms := up_one upq upt fun z => by rw [okq.m z, okt.m z, ezs]
        refine ⟨fun σ' H' => σ' = [some (.ref a), some (.ref g), some (.ref st), some (.ref pp), v4, some (.ref kl), some (.ref lr), some (.ref lw), some (.ref lm), some (.ref lt), some (.int (0 + (i : Nat))), some (.ref p1), some (.ref p2), v13, v14, v15, some (.int (0 + (j : Nat))), some (.bl (decide (r.wd = q.wd) && decide (r.ms = q.ms)))] ∧ Same HW H', ?_, ?_⟩
        · refine ⟨_, rfl, _, rfl, lw, _, _, _, rfl, rfl, .of (s11 _ _ hW), ir (l := 0), _, rfl, _, rfl, lw, _, _, _, rfl, rfl, .of (s11 _ _ hW), iq, rfl, _, rfl, ite2 (fun e => ?_) fun e => ?_⟩
          · have e : r.wd = q.wd := V.str.inj (of_decide_eq_true e)
            refine ⟨_, rfl, _, rfl, lm, _, _, _, rfl, rfl, .of (s11 _ _ hM), ir (l := 0), r.a, r.zs, rfl, .of (s11 _ _ (adR r rm)), by omega, fun u1 y1 H12 so1 pm1 g1 s12 => ?_⟩
            have s112 := s11.trans s12
            refine ⟨_, rfl, _, rfl, lm, _, _, _, rfl, rfl, .of (s112 _ _ hM), iq, q.a, q.zs, rfl, .of (s112 _ _ (adR q qm)), by omega, fun u2 y2 H13 so2 pm2 g2 s13 => ?_⟩
            have ey1 := sorted_is upr (okr.sub.nodup nd) okr.m so1 pm1
            have ey2 := sorted_is upq (okq.sub.nodup nd) okq.m so2 pm2
            rw [ey1] at g1
            rw [ey2] at g2
            refine ⟨_, _, .tup (.of (s13 _ _ g1)) (dpS _), .tup (.of g2) (dpS _), shT okmr, shT okmq, ?_, s112.trans s13⟩
            rw [decide_eq_true e, Bool.true_and]
            show _ = [_, _, _, _, _, _, _, _, _, _, _, _, _, _, _, _, _, some (V.bl (decide (r.ms = q.ms)))]
            rw [← eqvS]
            rfl
          · have e : r.wd ≠ q.wd := fun h => e (by rw [h]; exact decide_eq_true rfl)
            refine ⟨?_, s11⟩
            rw [decide_eq_false e, Bool.false_and]
            rfl
        · rintro σ' H12 ⟨rfl, s12⟩
          have b1' := okr.same s12
          have b3' := okt.same s12
          have hr2' := s12 _ _ hr1'
          have below : NotBelow K r.C (.ref t.p) H12 := ⟨_, okt.o.b.isi (s12 _ _ ht1'), nf _ okr.c _ okt.c⟩
          have eb : (decide (r.wd = t.wd) && decide (r.ms = t.ms)) = (decide (r.wd = q.wd) && decide (r.ms = q.ms)) := by rw [ewd, ems]
          refine ⟨_, rfl, _, rfl, lr, _, _, _, rfl, rfl, .of (s12 _ _ hR), ir (l := 0), _, rfl, _, rfl, lt, _, _, _, rfl, rfl, .of (s12 _ _ hT), it, r.C, r.wd, okr.o, r.p, dxr, _, rfl, hr2', below, r.C, r.p, r.wd, r.ms, _, _, rfl, okr.o.b, b1'.pol, .inl ⟨t.C, t.p, t.wd, t.ms, okt.o.b, rfl, b3'.pol, rfl⟩, ?_⟩
          refine ⟨_, rfl, _, rfl, lr, _, _, _, rfl, rfl, .of (s12 _ _ hR), ir (l := 0), _, rfl, _, rfl, lt, _, _, _, rfl, rfl, .of (s12 _ _ hT), it, r.C, r.wd, okr.o, r.p, dxr, _, rfl, hr2', below, r.C, r.p, r.wd, r.ms, _, _, rfl, okr.o.b, b1'.pol, .inl ⟨t.C, t.p, t.wd, t.ms, okt.o.b, rfl, b3'.pol, rfl⟩, _, rfl, (by show 2 ≤ sizeLine; decide), fun l1 nl1 => ?_⟩
          refine ⟨_, rfl, _, rfl, _, rfl, (by show 2 ≤ sizeLine; decide), fun l2 nl2 => ?_⟩
          refine ⟨l1, l2, [decide (r.wd = t.wd) && decide (r.ms = t.ms), !(decide (r.wd = t.wd) && decide (r.ms = t.ms))], [decide (r.wd = q.wd) && decide (r.ms = q.ms), !(decide (r.wd = q.wd) && decide (r.ms = q.ms))], rfl, (Same.new nl2) _ _ upd_same, upd_same, (by show 2 ≤ 1000; decide), fun HG sG => ⟨_, rfl, iteNS (by rw [eb]) ?_⟩⟩
          exact ⟨_, _, rfl, (s12.trans ((Same.new nl1).trans (Same.new nl2))).trans sG⟩
      · rintro σ H11 ⟨v16, v17, rfl, s11⟩
        exact ⟨_, v16, v17, rfl, s11⟩
    rintro σ H10 ⟨v10, v16, v17, rfl, s10⟩
    have hR := s10 _ _ hR
    have c0 : R[0]? = some R[0] := List.getElem?_eq_getElem (by omega)
    have c1 : R[1]? = some R[1] := List.getElem?_eq_getElem (by omega)
    have c3 : R[3]? = some R[3] := List.getElem?_eq_getElem (by omega)
    have g0 : R[0].C = Cc := by
      have e1 := congrArg (·[0]?) eC
      simp only [List.getElem?_map, c0, Option.map_some] at e1
      exact Option.some.inj e1
    have g1 : R[1].C = Ct := by
      have e1 := congrArg (·[1]?) eC
      simp only [List.getElem?_map, c1, Option.map_some] at e1
      exact Option.some.inj e1
    have g3 : R[3].C = Ce := by
      have e1 := congrArg (·[3]?) eC
      simp only [List.getElem?_map, c3, Option.map_some] at e1
      exact Option.some.inj e1
    have ok0 := (okR _ (List.mem_of_getElem? c0)).same s10
    have ok1 := (okR _ (List.mem_of_getElem? c1)).same s10
    have ok3 := (okR _ (List.mem_of_getElem? c3)).same s10
    generalize R[0] = r0 at c0 g0 ok0
    generalize R[1] = r1 at c1 g1 ok1
    generalize R[3] = r3 at c3 g3 ok3
    obtain ⟨_, _, i0, _⟩ := ok0.pol
    obtain ⟨_, _, i1, _⟩ := ok1.pol
    obtain ⟨_, _, i3, _⟩ := ok3.pol
    have j0 : ∀ {f : Rl → V}, atI (R.map f) 0 = some (f r0) := atI_nat (j := 0) (by rw [List.getElem?_map, c0]; rfl)
    have j1 : ∀ {f : Rl → V}, atI (R.map f) 1 = some (f r1) := atI_nat (j := 1) (by rw [List.getElem?_map, c1]; rfl)
    have j3 : ∀ {f : Rl → V}, atI (R.map f) 3 = some (f r3) := atI_nat (j := 3) (by rw [List.getElem?_map, c3]; rfl)
    refine ⟨_, rfl, lr, _, 0, _, rfl, rfl, .of hR, j0, _, _, _, _, true, rfl, .own Cc, ok0.o.b.isi i0, by rw [g0]; exact kit_self, _, rfl, iteF ?_⟩
    refine ⟨_, rfl, lr, _, 1, _, rfl, rfl, .of hR, j1, _, _, _, _, true, rfl, .own Ct, ok1.o.b.isi i1, by rw [g1]; exact kit_self, _, rfl, iteF ?_⟩
    refine ⟨_, rfl, lr, _, 3, _, rfl, rfl, .of hR, j3, _, _, _, _, true, rfl, .own Ce, ok3.o.b.isi i3, by rw [g3]; exact kit_self, ?_⟩
    exact k _
end
end Mf
namespace Mf
open PySem L2
theorem kit_ref {K : PySem.W.Frag} {C D : Addr} {b : Bool} (i : PySem.W.isClsIn K C = true) (t : PySem.W.typeIn K (.ref C) = some (.type "type")) (s : PySem.W.subIn K (.ref D) (.ref C) = some b) (ne : D = C → b = true) : PySem.W.kitOne K (.ref D) (.ref C) = some b := by
  have i' : (PySem.W.clsIn K C).isSome = true := i
  unfold PySem.W.kitOne PySem.W.kitCls
  by_cases e : D = C
  · rw [ne e, if_pos (by rw [e]; simp)]
  · rw [if_neg (by simpa using e)]
    show (if ((PySem.W.clsIn K C).isSome && PySem.W.typeIn K (.ref C) == some (.type "type")) = true then PySem.W.subIn K (.ref D) (.ref C) else none) = some b
    rw [if_pos (by rw [i', t]; rfl)]
    exact s
theorem MetF.calC {P : Program} {w : World} {K : PySem.W.Frag} {mg : Str → Option Value} {base : Heap} {CX : CXT} {k : Nat} {x qual : Str} {st : Stmt} {f C : Addr} {ps : List Str} {sp : Sp} (D : MetF K C "__init__" qual st f) (mk : PySem.W.makesIn K C = true) (kc : PySem.W.keepIn K (.ref C) = true) (m : mg x = some (.ref C)) (hb : BindP "__init__" qual st ps)
    (ok : ∀ fd, Fun K "__init__" qual st f fd → FnOk P w K mg base CX k f fd ps sp) : CalC P w K mg base CX k x C ps sp [] := by
  obtain ⟨oc, od, sl, kV, dc, pm, an, cd, ct, a, l, c, q, i, n⟩ := D.ex
  have F := fun_mk (st := st) l c q
  exact ⟨⟨f, _, [], ⟨mk, a, i, kc⟩, ok _ F, m, F.binds hb, .nil⟩⟩
set_option maxHeartbeats 4000000 in
theorem all_mk {l : PySem.W.OpenLaw} {w : World} {K : PySem.W.Frag} {h : Heap} {mg : Str → Option Value} {fa : Addr} (X : K.In h) (G : h.Ns mainGlobals mg) (hfa : mg "law" = some (.ref fa))
    {Cn Cb Cc Ct Ce fICn tDCn t0Cn fCneq fICc fCceq fCcstr fICt fCteq fCtstr fICe tDCe t0Ce fCeeq fCestr fDSource fDDraw fDName fDNames fDSubset fDSorted fDTruths fDIs fDLaw : Addr}
    {ocCn : Value} {odCn : Option Addr} {slCn : Array (Option Value)} {kVCn dcCn pmCn : Value} {anCn : Option Addr} {cdCn cuCn : Value} {o1Cn o2Cn : Obj} {itsCn : List Value} {n1Cn n2Cn : Nat}
    {ocCneq : Value} {odCneq : Option Addr} {slCneq : Array (Option Value)} {kVCneq dcCneq pmCneq : Value} {anCneq : Option Addr} {cdCneq ctCneq : Value}
    {ocICc : Value} {odICc : Option Addr} {slICc : Array (Option Value)} {kVICc dcICc pmICc : Value} {anICc : Option Addr} {cdICc ctICc : Value}
    {ocCceq : Value} {odCceq : Option Addr} {slCceq : Array (Option Value)} {kVCceq dcCceq pmCceq : Value} {anCceq : Option Addr} {cdCceq ctCceq : Value}
    {ocCcstr : Value} {odCcstr : Option Addr} {slCcstr : Array (Option Value)} {kVCcstr dcCcstr pmCcstr : Value} {anCcstr : Option Addr} {cdCcstr ctCcstr : Value}
    {ocICt : Value} {odICt : Option Addr} {slICt : Array (Option Value)} {kVICt dcICt pmICt : Value} {anICt : Option Addr} {cdICt ctICt : Value}
    {ocCteq : Value} {odCteq : Option Addr} {slCteq : Array (Option Value)} {kVCteq dcCteq pmCteq : Value} {anCteq : Option Addr} {cdCteq ctCteq : Value}
    {ocCtstr : Value} {odCtstr : Option Addr} {slCtstr : Array (Option Value)} {kVCtstr dcCtstr pmCtstr : Value} {anCtstr : Option Addr} {cdCtstr ctCtstr : Value}
    {ocCe : Value} {odCe : Option Addr} {slCe : Array (Option Value)} {kVCe dcCe pmCe : Value} {anCe : Option Addr} {cdCe cuCe : Value} {o1Ce o2Ce : Obj} {itsCe : List Value} {n1Ce n2Ce : Nat}
    {ocCeeq : Value} {odCeeq : Option Addr} {slCeeq : Array (Option Value)} {kVCeeq dcCeeq pmCeeq : Value} {anCeeq : Option Addr} {cdCeeq ctCeeq : Value}
    {ocCestr : Value} {odCestr : Option Addr} {slCestr : Array (Option Value)} {kVCestr dcCestr pmCestr : Value} {anCestr : Option Addr} {cdCestr ctCestr : Value}
    {twCc twCt twCe : Tok}
    {ocDSource : Value} {odDSource : Option Addr} {slDSource : Array (Option Value)} {kVDSource dcDSource pmDSource : Value} {anDSource : Option Addr} {cdDSource ctDSource : Value}
    {ocDDraw : Value} {odDDraw : Option Addr} {slDDraw : Array (Option Value)} {kVDDraw dcDDraw pmDDraw : Value} {anDDraw : Option Addr} {cdDDraw ctDDraw : Value}
    {ocDName : Value} {odDName : Option Addr} {slDName : Array (Option Value)} {kVDName dcDName pmDName : Value} {anDName : Option Addr} {cdDName ctDName : Value}
    {ocDNames : Value} {odDNames : Option Addr} {slDNames : Array (Option Value)} {kVDNames dcDNames pmDNames : Value} {anDNames : Option Addr} {cdDNames ctDNames : Value}
    {ocDSubset : Value} {odDSubset : Option Addr} {slDSubset : Array (Option Value)} {kVDSubset dcDSubset pmDSubset : Value} {anDSubset : Option Addr} {cdDSubset ctDSubset : Value}
    {ocDSorted : Value} {odDSorted : Option Addr} {slDSorted : Array (Option Value)} {kVDSorted dcDSorted pmDSorted : Value} {anDSorted : Option Addr} {cdDSorted ctDSorted : Value}
    {ocDTruths : Value} {odDTruths : Option Addr} {slDTruths : Array (Option Value)} {kVDTruths dcDTruths pmDTruths : Value} {anDTruths : Option Addr} {cdDTruths ctDTruths : Value}
    {ocDIs : Value} {odDIs : Option Addr} {slDIs : Array (Option Value)} {kVDIs dcDIs pmDIs : Value} {anDIs : Option Addr} {cdDIs ctDIs : Value}
    {ocDLaw : Value} {odDLaw : Option Addr} {slDLaw : Array (Option Value)} {kVDLaw dcDLaw pmDLaw : Value} {anDLaw : Option Addr} {cdDLaw ctDLaw : Value}
    (aCCn : PySem.W.nsIn K mainGlobals "NameSet" = some (some (.ref Cn)))
    (pgCn : PySem.W.plainGet K Cn Str.empty = true) (hdCn : PySem.W.hasDictIn K Cn = true) (poCn : PySem.W.plainOver K Cn = true) (saCn : PySem.W.findIn K (.ref Cn) "__setattr__" = some (some (.builtin "object.__setattr__"))) (mkCn : PySem.W.makesIn K Cn = true) (kcCn : PySem.W.keepIn K (.ref Cn) = true)
    (haCn : PySem.W.findIn K (.ref Cn) "__class__" = some (some (.builtin "object.__class__"))) (hmCn : PySem.W.mroIn K Cn (.type "object") = some true) (ciCn : PySem.W.isClsIn K Cn = true) (ctCn : PySem.W.typeIn K (.ref Cn) = some (.type "type")) (kLCn : PySem.W.subIn K (.type "list") (.ref Cn) = some false) (kTCn : PySem.W.subIn K (.type "tuple") (.ref Cn) = some false)
    (neCn : PySem.W.findIn K (.ref Cn) "__ne__" = some (some (.builtin "object.__ne__"))) (sfCn : PySem.W.selfFirst K Cn = true)
    (nCnmembers : PySem.W.findIn K (.ref Cn) "members" = some none)
    (iaCn : PySem.W.findIn K (.ref Cn) "__init__" = some (some (.ref fICn))) (iiCn : PySem.W.isFn K (.ref fICn) = true) (ilCn : K.lookup fICn = some ⟨ocCn, odCn, .func (PySem.W.fnOf "__init__" "NameSet.__init__" (defArgs sNameSetInit) (defBody sNameSetInit) (defScope sNameSetInit) (.ref tDCn) kVCn dcCn pmCn anCn cdCn cuCn), slCn⟩) (icCn : PySem.W.codeIn K cdCn "NameSet.__init__" = true) (ikCn : PySem.W.keepIn K (.ref fICn) = true)
    (t1Cn : K.lookup tDCn = some o1Cn) (t2Cn : o1Cn.data = .seq itsCn.toArray n1Cn) (t3Cn : itsCn = [.ref t0Cn]) (t4Cn : K.lookup t0Cn = some o2Cn) (t5Cn : o2Cn.data = .seq ([] : List Value).toArray n2Cn) (t6Cn : o2Cn.cls = .type "tuple")
    (aCneq : PySem.W.findIn K (.ref Cn) "__eq__" = some (some (.ref fCneq))) (lCneq : K.lookup fCneq = some ⟨ocCneq, odCneq, .func (PySem.W.fnOf "__eq__" "NameSet.__eq__" (defArgs sNameSetEq) (defBody sNameSetEq) (defScope sNameSetEq) .none kVCneq dcCneq pmCneq anCneq cdCneq ctCneq), slCneq⟩) (cCneq : PySem.W.codeIn K cdCneq "NameSet.__eq__" = true) (kCneq : PySem.W.keepIn K (.ref fCneq) = true) (iCneq : PySem.W.isFn K (.ref fCneq) = true) (nCneq : PySem.W.fnIn K fCneq = true)
    (aCCb : PySem.W.nsIn K mainGlobals "Policy" = some (some (.ref Cb)))
    (pgCb : PySem.W.plainGet K Cb Str.empty = true) (hdCb : PySem.W.hasDictIn K Cb = true) (poCb : PySem.W.plainOver K Cb = true) (saCb : PySem.W.findIn K (.ref Cb) "__setattr__" = some (some (.builtin "object.__setattr__"))) (mkCb : PySem.W.makesIn K Cb = true) (kcCb : PySem.W.keepIn K (.ref Cb) = true)
    (haCb : PySem.W.findIn K (.ref Cb) "__class__" = some (some (.builtin "object.__class__"))) (hmCb : PySem.W.mroIn K Cb (.type "object") = some true) (ciCb : PySem.W.isClsIn K Cb = true) (ctCb : PySem.W.typeIn K (.ref Cb) = some (.type "type")) (kLCb : PySem.W.subIn K (.type "list") (.ref Cb) = some false) (kTCb : PySem.W.subIn K (.type "tuple") (.ref Cb) = some false)
    (neCb : PySem.W.findIn K (.ref Cb) "__ne__" = some (some (.builtin "object.__ne__"))) (sfCb : PySem.W.selfFirst K Cb = true)
    (aCCc : PySem.W.nsIn K mainGlobals "CarefulPolicy" = some (some (.ref Cc)))
    (pgCc : PySem.W.plainGet K Cc Str.empty = true) (hdCc : PySem.W.hasDictIn K Cc = true) (poCc : PySem.W.plainOver K Cc = true) (saCc : PySem.W.findIn K (.ref Cc) "__setattr__" = some (some (.builtin "object.__setattr__"))) (mkCc : PySem.W.makesIn K Cc = true) (kcCc : PySem.W.keepIn K (.ref Cc) = true)
    (haCc : PySem.W.findIn K (.ref Cc) "__class__" = some (some (.builtin "object.__class__"))) (hmCc : PySem.W.mroIn K Cc (.type "object") = some true) (ciCc : PySem.W.isClsIn K Cc = true) (ctCc : PySem.W.typeIn K (.ref Cc) = some (.type "type")) (kLCc : PySem.W.subIn K (.type "list") (.ref Cc) = some false) (kTCc : PySem.W.subIn K (.type "tuple") (.ref Cc) = some false)
    (neCc : PySem.W.findIn K (.ref Cc) "__ne__" = some (some (.builtin "object.__ne__"))) (sfCc : PySem.W.selfFirst K Cc = true)
    (nCcmarks : PySem.W.findIn K (.ref Cc) "marks" = some none)
    (aICc : PySem.W.findIn K (.ref Cc) "__init__" = some (some (.ref fICc))) (lICc : K.lookup fICc = some ⟨ocICc, odICc, .func (PySem.W.fnOf "__init__" "Policy.__init__" (defArgs sPolicyInit) (defBody sPolicyInit) (defScope sPolicyInit) .none kVICc dcICc pmICc anICc cdICc ctICc), slICc⟩) (cICc : PySem.W.codeIn K cdICc "Policy.__init__" = true) (kICc : PySem.W.keepIn K (.ref fICc) = true) (iICc : PySem.W.isFn K (.ref fICc) = true) (nICc : PySem.W.fnIn K fICc = true)
    (aCceq : PySem.W.findIn K (.ref Cc) "__eq__" = some (some (.ref fCceq))) (lCceq : K.lookup fCceq = some ⟨ocCceq, odCceq, .func (PySem.W.fnOf "__eq__" "Policy.__eq__" (defArgs sPolicyEq) (defBody sPolicyEq) (defScope sPolicyEq) .none kVCceq dcCceq pmCceq anCceq cdCceq ctCceq), slCceq⟩) (cCceq : PySem.W.codeIn K cdCceq "Policy.__eq__" = true) (kCceq : PySem.W.keepIn K (.ref fCceq) = true) (iCceq : PySem.W.isFn K (.ref fCceq) = true) (nCceq : PySem.W.fnIn K fCceq = true)
    (aCcstr : PySem.W.findIn K (.ref Cc) "__str__" = some (some (.ref fCcstr))) (lCcstr : K.lookup fCcstr = some ⟨ocCcstr, odCcstr, .func (PySem.W.fnOf "__str__" "Policy.__str__" (defArgs sPolicyStr) (defBody sPolicyStr) (defScope sPolicyStr) .none kVCcstr dcCcstr pmCcstr anCcstr cdCcstr ctCcstr), slCcstr⟩) (cCcstr : PySem.W.codeIn K cdCcstr "Policy.__str__" = true) (kCcstr : PySem.W.keepIn K (.ref fCcstr) = true) (iCcstr : PySem.W.isFn K (.ref fCcstr) = true) (nCcstr : PySem.W.fnIn K fCcstr = true)
    (aCCt : PySem.W.nsIn K mainGlobals "TrailPolicy" = some (some (.ref Ct)))
    (pgCt : PySem.W.plainGet K Ct Str.empty = true) (hdCt : PySem.W.hasDictIn K Ct = true) (poCt : PySem.W.plainOver K Ct = true) (saCt : PySem.W.findIn K (.ref Ct) "__setattr__" = some (some (.builtin "object.__setattr__"))) (mkCt : PySem.W.makesIn K Ct = true) (kcCt : PySem.W.keepIn K (.ref Ct) = true)
    (haCt : PySem.W.findIn K (.ref Ct) "__class__" = some (some (.builtin "object.__class__"))) (hmCt : PySem.W.mroIn K Ct (.type "object") = some true) (ciCt : PySem.W.isClsIn K Ct = true) (ctCt : PySem.W.typeIn K (.ref Ct) = some (.type "type")) (kLCt : PySem.W.subIn K (.type "list") (.ref Ct) = some false) (kTCt : PySem.W.subIn K (.type "tuple") (.ref Ct) = some false)
    (neCt : PySem.W.findIn K (.ref Ct) "__ne__" = some (some (.builtin "object.__ne__"))) (sfCt : PySem.W.selfFirst K Ct = true)
    (nCtmarks : PySem.W.findIn K (.ref Ct) "marks" = some none)
    (aICt : PySem.W.findIn K (.ref Ct) "__init__" = some (some (.ref fICt))) (lICt : K.lookup fICt = some ⟨ocICt, odICt, .func (PySem.W.fnOf "__init__" "Policy.__init__" (defArgs sPolicyInit) (defBody sPolicyInit) (defScope sPolicyInit) .none kVICt dcICt pmICt anICt cdICt ctICt), slICt⟩) (cICt : PySem.W.codeIn K cdICt "Policy.__init__" = true) (kICt : PySem.W.keepIn K (.ref fICt) = true) (iICt : PySem.W.isFn K (.ref fICt) = true) (nICt : PySem.W.fnIn K fICt = true)
    (aCteq : PySem.W.findIn K (.ref Ct) "__eq__" = some (some (.ref fCteq))) (lCteq : K.lookup fCteq = some ⟨ocCteq, odCteq, .func (PySem.W.fnOf "__eq__" "Policy.__eq__" (defArgs sPolicyEq) (defBody sPolicyEq) (defScope sPolicyEq) .none kVCteq dcCteq pmCteq anCteq cdCteq ctCteq), slCteq⟩) (cCteq : PySem.W.codeIn K cdCteq "Policy.__eq__" = true) (kCteq : PySem.W.keepIn K (.ref fCteq) = true) (iCteq : PySem.W.isFn K (.ref fCteq) = true) (nCteq : PySem.W.fnIn K fCteq = true)
    (aCtstr : PySem.W.findIn K (.ref Ct) "__str__" = some (some (.ref fCtstr))) (lCtstr : K.lookup fCtstr = some ⟨ocCtstr, odCtstr, .func (PySem.W.fnOf "__str__" "Policy.__str__" (defArgs sPolicyStr) (defBody sPolicyStr) (defScope sPolicyStr) .none kVCtstr dcCtstr pmCtstr anCtstr cdCtstr ctCtstr), slCtstr⟩) (cCtstr : PySem.W.codeIn K cdCtstr "Policy.__str__" = true) (kCtstr : PySem.W.keepIn K (.ref fCtstr) = true) (iCtstr : PySem.W.isFn K (.ref fCtstr) = true) (nCtstr : PySem.W.fnIn K fCtstr = true)
    (aCCe : PySem.W.nsIn K mainGlobals "EagerPolicy" = some (some (.ref Ce)))
    (pgCe : PySem.W.plainGet K Ce Str.empty = true) (hdCe : PySem.W.hasDictIn K Ce = true) (poCe : PySem.W.plainOver K Ce = true) (saCe : PySem.W.findIn K (.ref Ce) "__setattr__" = some (some (.builtin "object.__setattr__"))) (mkCe : PySem.W.makesIn K Ce = true) (kcCe : PySem.W.keepIn K (.ref Ce) = true)
    (haCe : PySem.W.findIn K (.ref Ce) "__class__" = some (some (.builtin "object.__class__"))) (hmCe : PySem.W.mroIn K Ce (.type "object") = some true) (ciCe : PySem.W.isClsIn K Ce = true) (ctCe : PySem.W.typeIn K (.ref Ce) = some (.type "type")) (kLCe : PySem.W.subIn K (.type "list") (.ref Ce) = some false) (kTCe : PySem.W.subIn K (.type "tuple") (.ref Ce) = some false)
    (neCe : PySem.W.findIn K (.ref Ce) "__ne__" = some (some (.builtin "object.__ne__"))) (sfCe : PySem.W.selfFirst K Ce = true)
    (nCemarks : PySem.W.findIn K (.ref Ce) "marks" = some none)
    (iaCe : PySem.W.findIn K (.ref Ce) "__init__" = some (some (.ref fICe))) (iiCe : PySem.W.isFn K (.ref fICe) = true) (ilCe : K.lookup fICe = some ⟨ocCe, odCe, .func (PySem.W.fnOf "__init__" "EagerPolicy.__init__" (defArgs sEagerPolicyInit) (defBody sEagerPolicyInit) (defScope sEagerPolicyInit) (.ref tDCe) kVCe dcCe pmCe anCe cdCe cuCe), slCe⟩) (icCe : PySem.W.codeIn K cdCe "EagerPolicy.__init__" = true) (ikCe : PySem.W.keepIn K (.ref fICe) = true)
    (t1Ce : K.lookup tDCe = some o1Ce) (t2Ce : o1Ce.data = .seq itsCe.toArray n1Ce) (t3Ce : itsCe = [.ref t0Ce]) (t4Ce : K.lookup t0Ce = some o2Ce) (t5Ce : o2Ce.data = .seq ([] : List Value).toArray n2Ce) (t6Ce : o2Ce.cls = .type "tuple")
    (aCeeq : PySem.W.findIn K (.ref Ce) "__eq__" = some (some (.ref fCeeq))) (lCeeq : K.lookup fCeeq = some ⟨ocCeeq, odCeeq, .func (PySem.W.fnOf "__eq__" "Policy.__eq__" (defArgs sPolicyEq) (defBody sPolicyEq) (defScope sPolicyEq) .none kVCeeq dcCeeq pmCeeq anCeeq cdCeeq ctCeeq), slCeeq⟩) (cCeeq : PySem.W.codeIn K cdCeeq "Policy.__eq__" = true) (kCeeq : PySem.W.keepIn K (.ref fCeeq) = true) (iCeeq : PySem.W.isFn K (.ref fCeeq) = true) (nCeeq : PySem.W.fnIn K fCeeq = true)
    (aCestr : PySem.W.findIn K (.ref Ce) "__str__" = some (some (.ref fCestr))) (lCestr : K.lookup fCestr = some ⟨ocCestr, odCestr, .func (PySem.W.fnOf "__str__" "Policy.__str__" (defArgs sPolicyStr) (defBody sPolicyStr) (defScope sPolicyStr) .none kVCestr dcCestr pmCestr anCestr cdCestr ctCestr), slCestr⟩) (cCestr : PySem.W.codeIn K cdCestr "Policy.__str__" = true) (kCestr : PySem.W.keepIn K (.ref fCestr) = true) (iCestr : PySem.W.isFn K (.ref fCestr) = true) (nCestr : PySem.W.fnIn K fCestr = true)
    (hn : PySem.W.specialIn K (.builtin "object.__class__") "__get__" = some (some (.builtin "getset_descriptor.__get__"))) (htk : PySem.W.takesIn K (.builtin "object.__class__") = some true)
    (uS : PySem.W.subIn K (.type "str") (.ref Cb) = some false) (uN : PySem.W.subIn K (.ref Cn) (.ref Cb) = some false) (uB : PySem.W.subIn K (.ref Cb) (.ref Cb) = some true)
    (cwCc : PySem.W.findIn K (.ref Cc) "word" = some (some (.str "careful" twCc))) (swCc : PySem.W.specialIn K (.str "careful" twCc) "__get__" = some none) (sbCc : PySem.W.subIn K (.ref Cc) (.ref Cb) = some true) (bSCc : PySem.W.notFirst K Cc (.type "str") = true) (bNCc : PySem.W.notFirst K Cc (.ref Cn) = true)
    (nfCcCc : PySem.W.notFirst K Cc (.ref Cc) = true)
    (nfCcCt : PySem.W.notFirst K Cc (.ref Ct) = true)
    (nfCcCe : PySem.W.notFirst K Cc (.ref Ce) = true)
    (cwCt : PySem.W.findIn K (.ref Ct) "word" = some (some (.str "trail" twCt))) (swCt : PySem.W.specialIn K (.str "trail" twCt) "__get__" = some none) (sbCt : PySem.W.subIn K (.ref Ct) (.ref Cb) = some true) (bSCt : PySem.W.notFirst K Ct (.type "str") = true) (bNCt : PySem.W.notFirst K Ct (.ref Cn) = true)
    (nfCtCc : PySem.W.notFirst K Ct (.ref Cc) = true)
    (nfCtCt : PySem.W.notFirst K Ct (.ref Ct) = true)
    (nfCtCe : PySem.W.notFirst K Ct (.ref Ce) = true)
    (cwCe : PySem.W.findIn K (.ref Ce) "word" = some (some (.str "eager" twCe))) (swCe : PySem.W.specialIn K (.str "eager" twCe) "__get__" = some none) (sbCe : PySem.W.subIn K (.ref Ce) (.ref Cb) = some true) (bSCe : PySem.W.notFirst K Ce (.type "str") = true) (bNCe : PySem.W.notFirst K Ce (.ref Cn) = true)
    (nfCeCc : PySem.W.notFirst K Ce (.ref Cc) = true)
    (nfCeCt : PySem.W.notFirst K Ce (.ref Ct) = true)
    (nfCeCe : PySem.W.notFirst K Ce (.ref Ce) = true)
    (aDSource : PySem.W.nsIn K mainGlobals "_law_source" = some (some (.ref fDSource))) (lDSource : K.lookup fDSource = some ⟨ocDSource, odDSource, .func (PySem.W.fnOf "_law_source" "_law_source" (defArgs sSource) (defBody sSource) (defScope sSource) .none kVDSource dcDSource pmDSource anDSource cdDSource ctDSource), slDSource⟩) (cDSource : PySem.W.codeIn K cdDSource "_law_source" = true) (kDSource : PySem.W.keepIn K (.ref fDSource) = true)
    (aDDraw : PySem.W.nsIn K mainGlobals "_law_draw" = some (some (.ref fDDraw))) (lDDraw : K.lookup fDDraw = some ⟨ocDDraw, odDDraw, .func (PySem.W.fnOf "_law_draw" "_law_draw" (defArgs sDraw) (defBody sDraw) (defScope sDraw) .none kVDDraw dcDDraw pmDDraw anDDraw cdDDraw ctDDraw), slDDraw⟩) (cDDraw : PySem.W.codeIn K cdDDraw "_law_draw" = true) (kDDraw : PySem.W.keepIn K (.ref fDDraw) = true)
    (aDName : PySem.W.nsIn K mainGlobals "_law_name" = some (some (.ref fDName))) (lDName : K.lookup fDName = some ⟨ocDName, odDName, .func (PySem.W.fnOf "_law_name" "_law_name" (defArgs sName) (defBody sName) (defScope sName) .none kVDName dcDName pmDName anDName cdDName ctDName), slDName⟩) (cDName : PySem.W.codeIn K cdDName "_law_name" = true) (kDName : PySem.W.keepIn K (.ref fDName) = true)
    (aDNames : PySem.W.nsIn K mainGlobals "_law_names" = some (some (.ref fDNames))) (lDNames : K.lookup fDNames = some ⟨ocDNames, odDNames, .func (PySem.W.fnOf "_law_names" "_law_names" (defArgs sNames) (defBody sNames) (defScope sNames) .none kVDNames dcDNames pmDNames anDNames cdDNames ctDNames), slDNames⟩) (cDNames : PySem.W.codeIn K cdDNames "_law_names" = true) (kDNames : PySem.W.keepIn K (.ref fDNames) = true)
    (aDSubset : PySem.W.nsIn K mainGlobals "_law_subset" = some (some (.ref fDSubset))) (lDSubset : K.lookup fDSubset = some ⟨ocDSubset, odDSubset, .func (PySem.W.fnOf "_law_subset" "_law_subset" (defArgs sSubset) (defBody sSubset) (defScope sSubset) .none kVDSubset dcDSubset pmDSubset anDSubset cdDSubset ctDSubset), slDSubset⟩) (cDSubset : PySem.W.codeIn K cdDSubset "_law_subset" = true) (kDSubset : PySem.W.keepIn K (.ref fDSubset) = true)
    (aDSorted : PySem.W.nsIn K mainGlobals "_law_sorted" = some (some (.ref fDSorted))) (lDSorted : K.lookup fDSorted = some ⟨ocDSorted, odDSorted, .func (PySem.W.fnOf "_law_sorted" "_law_sorted" (defArgs sSorted) (defBody sSorted) (defScope sSorted) .none kVDSorted dcDSorted pmDSorted anDSorted cdDSorted ctDSorted), slDSorted⟩) (cDSorted : PySem.W.codeIn K cdDSorted "_law_sorted" = true) (kDSorted : PySem.W.keepIn K (.ref fDSorted) = true)
    (aDTruths : PySem.W.nsIn K mainGlobals "_law_truths" = some (some (.ref fDTruths))) (lDTruths : K.lookup fDTruths = some ⟨ocDTruths, odDTruths, .func (PySem.W.fnOf "_law_truths" "_law_truths" (defArgs sTruths) (defBody sTruths) (defScope sTruths) .none kVDTruths dcDTruths pmDTruths anDTruths cdDTruths ctDTruths), slDTruths⟩) (cDTruths : PySem.W.codeIn K cdDTruths "_law_truths" = true) (kDTruths : PySem.W.keepIn K (.ref fDTruths) = true)
    (aDIs : PySem.W.nsIn K mainGlobals "_law_is" = some (some (.ref fDIs))) (lDIs : K.lookup fDIs = some ⟨ocDIs, odDIs, .func (PySem.W.fnOf "_law_is" "_law_is" (defArgs sIs) (defBody sIs) (defScope sIs) .none kVDIs dcDIs pmDIs anDIs cdDIs ctDIs), slDIs⟩) (cDIs : PySem.W.codeIn K cdDIs "_law_is" = true) (kDIs : PySem.W.keepIn K (.ref fDIs) = true)
    (aDLaw : PySem.W.nsIn K mainGlobals "law" = some (some (.ref fDLaw))) (lDLaw : K.lookup fDLaw = some ⟨ocDLaw, odDLaw, .func (PySem.W.fnOf "law" "law" (defArgs sLaw) (defBody sLaw) (defScope sLaw) .none kVDLaw dcDLaw pmDLaw anDLaw cdDLaw ctDLaw), slDLaw⟩) (cDLaw : PySem.W.codeIn K cdDLaw "law" = true) (kDLaw : PySem.W.keepIn K (.ref fDLaw) = true)
    (zint : PySem.W.nsIn K mainGlobals "int" = some none)
    (zenumerate : PySem.W.nsIn K mainGlobals "enumerate" = some none)
    (zrange : PySem.W.nsIn K mainGlobals "range" = some none)
    (zlist : PySem.W.nsIn K mainGlobals "list" = some none)
    (ztuple : PySem.W.nsIn K mainGlobals "tuple" = some none)
    (zsorted : PySem.W.nsIn K mainGlobals "sorted" = some none)
    (zstr : PySem.W.nsIn K mainGlobals "str" = some none)
    (zall : PySem.W.nsIn K mainGlobals "all" = some none)
    (zisinstance : PySem.W.nsIn K mainGlobals "isinstance" = some none)
    (zbool : PySem.W.nsIn K mainGlobals "bool" = some none)
    (zlen : PySem.W.nsIn K mainGlobals "len" = some none)
    (zset : PySem.W.nsIn K mainGlobals "set" = some none)
    (zzip : PySem.W.nsIn K mainGlobals "zip" = some none) :
    ∃ fd : FuncData, (∀ (s : Shared) (v : Value), BindsTo s fd ⟨[v], []⟩ [("_law_script", v)]) ∧ ∀ base : Heap, K.In base → base.Ns mainGlobals mg → FnOk l.prog w K mg base CX0 6 fa fd ["_law_script"] (spLaw K) := by
  have mCneq : MetF K Cn "__eq__" "NameSet.__eq__" sNameSetEq fCneq := ⟨⟨_, _, _, _, _, _, _, _, _, aCneq, lCneq, cCneq, kCneq, iCneq, nCneq⟩⟩
  have mICc : MetF K Cc "__init__" "Policy.__init__" sPolicyInit fICc := ⟨⟨_, _, _, _, _, _, _, _, _, aICc, lICc, cICc, kICc, iICc, nICc⟩⟩
  have mCceq : MetF K Cc "__eq__" "Policy.__eq__" sPolicyEq fCceq := ⟨⟨_, _, _, _, _, _, _, _, _, aCceq, lCceq, cCceq, kCceq, iCceq, nCceq⟩⟩
  have mCcstr : MetF K Cc "__str__" "Policy.__str__" sPolicyStr fCcstr := ⟨⟨_, _, _, _, _, _, _, _, _, aCcstr, lCcstr, cCcstr, kCcstr, iCcstr, nCcstr⟩⟩
  have mICt : MetF K Ct "__init__" "Policy.__init__" sPolicyInit fICt := ⟨⟨_, _, _, _, _, _, _, _, _, aICt, lICt, cICt, kICt, iICt, nICt⟩⟩
  have mCteq : MetF K Ct "__eq__" "Policy.__eq__" sPolicyEq fCteq := ⟨⟨_, _, _, _, _, _, _, _, _, aCteq, lCteq, cCteq, kCteq, iCteq, nCteq⟩⟩
  have mCtstr : MetF K Ct "__str__" "Policy.__str__" sPolicyStr fCtstr := ⟨⟨_, _, _, _, _, _, _, _, _, aCtstr, lCtstr, cCtstr, kCtstr, iCtstr, nCtstr⟩⟩
  have mCeeq : MetF K Ce "__eq__" "Policy.__eq__" sPolicyEq fCeeq := ⟨⟨_, _, _, _, _, _, _, _, _, aCeeq, lCeeq, cCeeq, kCeeq, iCeeq, nCeeq⟩⟩
  have mCestr : MetF K Ce "__str__" "Policy.__str__" sPolicyStr fCestr := ⟨⟨_, _, _, _, _, _, _, _, _, aCestr, lCestr, cCestr, kCestr, iCestr, nCestr⟩⟩
  have dDSource : DefF K "_law_source" sSource fDSource := ⟨⟨_, _, _, _, _, _, _, _, _, aDSource, lDSource, cDSource, kDSource⟩⟩
  have dDDraw : DefF K "_law_draw" sDraw fDDraw := ⟨⟨_, _, _, _, _, _, _, _, _, aDDraw, lDDraw, cDDraw, kDDraw⟩⟩
  have dDName : DefF K "_law_name" sName fDName := ⟨⟨_, _, _, _, _, _, _, _, _, aDName, lDName, cDName, kDName⟩⟩
  have dDNames : DefF K "_law_names" sNames fDNames := ⟨⟨_, _, _, _, _, _, _, _, _, aDNames, lDNames, cDNames, kDNames⟩⟩
  have dDSubset : DefF K "_law_subset" sSubset fDSubset := ⟨⟨_, _, _, _, _, _, _, _, _, aDSubset, lDSubset, cDSubset, kDSubset⟩⟩
  have dDSorted : DefF K "_law_sorted" sSorted fDSorted := ⟨⟨_, _, _, _, _, _, _, _, _, aDSorted, lDSorted, cDSorted, kDSorted⟩⟩
  have dDTruths : DefF K "_law_truths" sTruths fDTruths := ⟨⟨_, _, _, _, _, _, _, _, _, aDTruths, lDTruths, cDTruths, kDTruths⟩⟩
  have dDIs : DefF K "_law_is" sIs fDIs := ⟨⟨_, _, _, _, _, _, _, _, _, aDIs, lDIs, cDIs, kDIs⟩⟩
  have dDLaw : DefF K "law" sLaw fDLaw := ⟨⟨_, _, _, _, _, _, _, _, _, aDLaw, lDLaw, cDLaw, kDLaw⟩⟩
  have vint : mg "int" = none := PySem.W.mg_none_of X G zint
  have venumerate : mg "enumerate" = none := PySem.W.mg_none_of X G zenumerate
  have vrange : mg "range" = none := PySem.W.mg_none_of X G zrange
  have vlist : mg "list" = none := PySem.W.mg_none_of X G zlist
  have vtuple : mg "tuple" = none := PySem.W.mg_none_of X G ztuple
  have vsorted : mg "sorted" = none := PySem.W.mg_none_of X G zsorted
  have vstr : mg "str" = none := PySem.W.mg_none_of X G zstr
  have vall : mg "all" = none := PySem.W.mg_none_of X G zall
  have visinstance : mg "isinstance" = none := PySem.W.mg_none_of X G zisinstance
  have vbool : mg "bool" = none := PySem.W.mg_none_of X G zbool
  have vlen : mg "len" = none := PySem.W.mg_none_of X G zlen
  have vset : mg "set" = none := PySem.W.mg_none_of X G zset
  have vzip : mg "zip" = none := PySem.W.mg_none_of X G zzip
  have q0Cn : ∀ H, SqT K H t0Cn [] := fun H => .inr ⟨o2Cn, #[], n2Cn, t4Cn, t6Cn, t5Cn, Nat.zero_le _, .nil⟩
  subst t3Cn
  have insCn : C8.InsC K Cn := ⟨⟨pgCn, hdCn, poCn, saCn⟩, haCn, hn, htk, hmCn, kit_self⟩
  have TCn : NsC K mg Cn := ⟨insCn, nCnmembers, PySem.W.mg_of X G aCCn, kit_own ciCn ctCn kLCn, kit_own ciCn ctCn kTCn, notFirst_of kTCn, notFirst_of kLCn, visinstance, vtuple, vsorted, vset, vall, vlen⟩
  have insCb : C8.InsC K Cb := ⟨⟨pgCb, hdCb, poCb, saCb⟩, haCb, hn, htk, hmCb, kit_self⟩
  have insCc : C8.InsC K Cc := ⟨⟨pgCc, hdCc, poCc, saCc⟩, haCc, hn, htk, hmCc, kit_self⟩
  have TCc : PoC K Cb Cc "careful" := ⟨insCc, nCcmarks, ⟨_, ⟨cwCc, ⟨_, rfl⟩, swCc, by decide⟩⟩, kit_ref ciCb ctCb sbCc fun _ => rfl⟩
  have insCt : C8.InsC K Ct := ⟨⟨pgCt, hdCt, poCt, saCt⟩, haCt, hn, htk, hmCt, kit_self⟩
  have TCt : PoC K Cb Ct "trail" := ⟨insCt, nCtmarks, ⟨_, ⟨cwCt, ⟨_, rfl⟩, swCt, by decide⟩⟩, kit_ref ciCb ctCb sbCt fun _ => rfl⟩
  have q0Ce : ∀ H, SqT K H t0Ce [] := fun H => .inr ⟨o2Ce, #[], n2Ce, t4Ce, t6Ce, t5Ce, Nat.zero_le _, .nil⟩
  subst t3Ce
  have insCe : C8.InsC K Ce := ⟨⟨pgCe, hdCe, poCe, saCe⟩, haCe, hn, htk, hmCe, kit_self⟩
  have TCe : PoC K Cb Ce "eager" := ⟨insCe, nCemarks, ⟨_, ⟨cwCe, ⟨_, rfl⟩, swCe, by decide⟩⟩, kit_ref ciCb ctCb sbCe fun _ => rfl⟩
  refine dDLaw.law X G hfa (fun _ _ _ _ _ _ s v => .of_eq rfl) fun base _ _ fd FL => ?_
  have FICn : FunD K "__init__" "NameSet.__init__" (defArgs sNameSetInit) (defBody sNameSetInit) (defScope sNameSetInit) [.ref t0Cn] [] fICn _ := ⟨⟨ocCn, odCn, .ref tDCn, kVCn, dcCn, pmCn, anCn, cdCn, cuCn, slCn, rfl, ilCn, icCn, .inr ⟨by simp, tDCn, o1Cn, _, n1Cn, rfl, t1Cn, t2Cn, .cons rfl .nil⟩, .inl rfl⟩, ikCn⟩
  have okICn : FnOk l.prog w K mg base CX0 1 fICn _ ["self", "names"] (spNsInit K Cn) := ok_nsInit FICn TCn
  obtain ⟨ds1Cn, r1Cn, b1Cn⟩ := FICn.binds1 (ps := ["self", "names"]) 2 1 (by simp) rfl fun _ _ _ _ _ _ _ us its hu hi => match us, its, hu, hi with | [_, _], [_], _, _ => ⟨_, rfl, rfl⟩
  obtain ⟨ds0Cn, r0Cn, b0Cn⟩ := FICn.binds1 (ps := ["self", "names"]) 1 0 (by simp) rfl fun _ _ _ _ _ _ _ us its hu hi => match us, its, hu, hi with | [_], [_], _, _ => ⟨_, rfl, rfl⟩
  have mk1Cn : CalC l.prog w K mg base CX0 1 "NameSet" Cn ["self", "names"] (spNsInit K Cn) [] := ⟨⟨fICn, _, ds1Cn, ⟨mkCn, iaCn, iiCn, kcCn⟩, okICn, PySem.W.mg_of X G aCCn, b1Cn, r1Cn⟩⟩
  have mk0Cn : CalC l.prog w K mg base CX0 1 "NameSet" Cn ["self", "names"] (spNsInit K Cn) [.ref t0Cn] := ⟨⟨fICn, _, ds0Cn, ⟨mkCn, iaCn, iiCn, kcCn⟩, okICn, PySem.W.mg_of X G aCCn, b0Cn, r0Cn⟩⟩
  have oCneq : CalM l.prog w K mg base CX0 1 Cn "__eq__" ["self", "other"] (spNsEq K Cn) := mCneq.cal (fun _ _ _ _ _ _ us hl => match us, hl with | [_, _], _ => rfl) fun fd F => ok_nsEq F TCn
  have a0Cn : ∀ H, ArgS K Cn H (.ref t0Cn) [] := fun H => .emp t4Cn t6Cn q0Cn
  have a0Ce : ∀ H, ArgS K Cn H (.ref t0Ce) [] := fun H => .emp t4Ce t6Ce q0Ce
  have mk1Cc : CalC l.prog w K mg base CX0 3 "CarefulPolicy" Cc ["self"] (spPolI K Cc Cn) [] := mICc.calC mkCc kcCc (PySem.W.mg_of X G aCCc) (fun _ _ _ _ _ _ us hl => match us, hl with | [_], _ => rfl) fun fd F => ok_polI F TCn TCc mk0Cn a0Cn
  have mk1Ct : CalC l.prog w K mg base CX0 3 "TrailPolicy" Ct ["self"] (spPolI K Ct Cn) [] := mICt.calC mkCt kcCt (PySem.W.mg_of X G aCCt) (fun _ _ _ _ _ _ us hl => match us, hl with | [_], _ => rfl) fun fd F => ok_polI F TCn TCt mk0Cn a0Cn
  have FICe : FunD K "__init__" "EagerPolicy.__init__" (defArgs sEagerPolicyInit) (defBody sEagerPolicyInit) (defScope sEagerPolicyInit) [.ref t0Ce] [] fICe _ := ⟨⟨ocCe, odCe, .ref tDCe, kVCe, dcCe, pmCe, anCe, cdCe, cuCe, slCe, rfl, ilCe, icCe, .inr ⟨by simp, tDCe, o1Ce, _, n1Ce, rfl, t1Ce, t2Ce, .cons rfl .nil⟩, .inl rfl⟩, ikCe⟩
  have okICe : FnOk l.prog w K mg base CX0 3 fICe _ ["self", "marks"] (spEagI K Ce Cn) := ok_eagI FICe TCe mk1Cn
  obtain ⟨ds1Ce, r1Ce, b1Ce⟩ := FICe.binds1 (ps := ["self", "marks"]) 2 1 (by simp) rfl fun _ _ _ _ _ _ _ us its hu hi => match us, its, hu, hi with | [_, _], [_], _, _ => ⟨_, rfl, rfl⟩
  obtain ⟨ds0Ce, r0Ce, b0Ce⟩ := FICe.binds1 (ps := ["self", "marks"]) 1 0 (by simp) rfl fun _ _ _ _ _ _ _ us its hu hi => match us, its, hu, hi with | [_], [_], _, _ => ⟨_, rfl, rfl⟩
  have mk1Ce : CalC l.prog w K mg base CX0 3 "EagerPolicy" Ce ["self", "marks"] (spEagI K Ce Cn) [] := ⟨⟨fICe, _, ds1Ce, ⟨mkCe, iaCe, iiCe, kcCe⟩, okICe, PySem.W.mg_of X G aCCe, b1Ce, r1Ce⟩⟩
  have mk0Ce : CalC l.prog w K mg base CX0 3 "EagerPolicy" Ce ["self", "marks"] (spEagI K Ce Cn) [.ref t0Ce] := ⟨⟨fICe, _, ds0Ce, ⟨mkCe, iaCe, iiCe, kcCe⟩, okICe, PySem.W.mg_of X G aCCe, b0Ce, r0Ce⟩⟩
  obtain ⟨itkCe, kbCe⟩ := FICe.kbindsD (ps := ["self", "marks"]) 1 ["marks"] (fun us _ ws => us ++ ws) (by simp) (fun r1 _ r3 => r1.append r3) fun _ _ _ _ _ _ _ us its ws hu hi hw => match us, its, ws, hu, hi, hw with | [_], [_], [_], _, _, _ => ⟨_, rfl, rfl⟩
  have oCceq : CalM l.prog w K mg base CX0 2 Cc "__eq__" ["self", "other"] (spPolEq K Cb Cn) := mCceq.cal (fun _ _ _ _ _ _ us hl => match us, hl with | [_, _], _ => rfl) fun fd F => ok_polEq F TCn oCneq (PySem.W.mg_of X G aCCb)
  have oCcstr : CalM l.prog w K mg base CX0 1 Cc "__str__" ["self"] (spPolStr K Cb Cn) := mCcstr.cal (fun _ _ _ _ _ _ us hl => match us, hl with | [_], _ => rfl) fun fd F => ok_polStr F TCn
  have oCteq : CalM l.prog w K mg base CX0 2 Ct "__eq__" ["self", "other"] (spPolEq K Cb Cn) := mCteq.cal (fun _ _ _ _ _ _ us hl => match us, hl with | [_, _], _ => rfl) fun fd F => ok_polEq F TCn oCneq (PySem.W.mg_of X G aCCb)
  have oCtstr : CalM l.prog w K mg base CX0 1 Ct "__str__" ["self"] (spPolStr K Cb Cn) := mCtstr.cal (fun _ _ _ _ _ _ us hl => match us, hl with | [_], _ => rfl) fun fd F => ok_polStr F TCn
  have oCeeq : CalM l.prog w K mg base CX0 2 Ce "__eq__" ["self", "other"] (spPolEq K Cb Cn) := mCeeq.cal (fun _ _ _ _ _ _ us hl => match us, hl with | [_, _], _ => rfl) fun fd F => ok_polEq F TCn oCneq (PySem.W.mg_of X G aCCb)
  have oCestr : CalM l.prog w K mg base CX0 1 Ce "__str__" ["self"] (spPolStr K Cb Cn) := mCestr.cal (fun _ _ _ _ _ _ us hl => match us, hl with | [_], _ => rfl) fun fd F => ok_polStr F TCn
  have OCc : PoO l.prog w K mg base Cb Cn Cc "careful" := ⟨TCc, oCceq, neCc, oCcstr, by decide +kernel, bSCc, bNCc⟩
  have OCt : PoO l.prog w K mg base Cb Cn Ct "trail" := ⟨TCt, oCteq, neCt, oCtstr, by decide +kernel, bSCt, bNCt⟩
  have OCe : PoO l.prog w K mg base Cb Cn Ce "eager" := ⟨TCe, oCeeq, neCe, oCestr, by decide +kernel, bSCe, bNCe⟩
  have c_source : Cal l.prog w K mg base CX0 1 "_law_source" ["_law_script"] (spSource K) := dDSource.cal X G (fun _ _ _ _ _ _ us hl => match us, hl with | [_], _ => rfl) fun fd F => ok_source F vint venumerate
  have c_draw : Cal l.prog w K mg base CX0 1 "_law_draw" ["_law_source_here", "_law_many"] spDraw := dDDraw.cal X G (fun _ _ _ _ _ _ us hl => match us, hl with | [_, _], _ => rfl) fun fd F => ok_draw F vint
  have c_name : Cal l.prog w K mg base CX0 2 "_law_name" ["_law_source_here", "_law_taken"] (spName K) := dDName.cal X G (fun _ _ _ _ _ _ us hl => match us, hl with | [_, _], _ => rfl) fun fd F => ok_name F c_draw vrange
  have c_names : Cal l.prog w K mg base CX0 3 "_law_names" ["_law_source_here", "_law_many"] spNames := dDNames.cal X G (fun _ _ _ _ _ _ us hl => match us, hl with | [_, _], _ => rfl) fun fd F => ok_names F c_name vrange vlist
  have c_subset : Cal l.prog w K mg base CX0 2 "_law_subset" ["_law_source_here", "_law_row"] (spSubset K) := dDSubset.cal X G (fun _ _ _ _ _ _ us hl => match us, hl with | [_, _], _ => rfl) fun fd F => ok_subset F c_draw
  have c_sorted : Cal l.prog w K mg base CX0 1 "_law_sorted" ["_law_names_here"] (spSorted K) := dDSorted.cal X G (fun _ _ _ _ _ _ us hl => match us, hl with | [_], _ => rfl) fun fd F => ok_sorted F vtuple vsorted vstr
  have c_truths : Cal l.prog w K mg base CX0 1 "_law_truths" ["_law_found", "_law_due"] spTruths := dDTruths.cal X G (fun _ _ _ _ _ _ us hl => match us, hl with | [_, _], _ => rfl) fun fd F => ok_truths F vall visinstance vbool
  have c_is : Cal l.prog w K mg base CX0 4 "_law_is" ["_law_rule", "_law_word", "_law_marked"] (spIs l.prog w K mg base Cb Cn) := dDIs.cal X G (fun _ _ _ _ _ _ us hl => match us, hl with | [_, _, _], _ => rfl) fun fd F => ok_is F TCn (PySem.W.mg_of X G aCCb) vstr vlist c_sorted
  have A : PoA l.prog w K mg base Cn Cb Cc Ct Ce := ⟨TCn, OCc, OCt, OCe, mk1Cc, mk1Ct, mk1Ce, ⟨t0Ce, mk0Ce, a0Ce⟩, ⟨fICe, _, itkCe, [], ⟨mkCe, iaCe, iiCe, kcCe⟩, okICe, kbCe⟩, mk1Cn, PySem.W.mg_of X G aCCc, PySem.W.mg_of X G aCCt, PySem.W.mg_of X G aCCe, fun C hC D hD => by
      simp only [List.mem_cons, List.not_mem_nil, or_false] at hC hD
      rcases hC with rfl | rfl | rfl <;> rcases hD with rfl | rfl | rfl <;> assumption, kit_own ciCb ctCb uS, kit_ref ciCb ctCb uN fun e => by rw [e, uB] at uN; cases uN⟩
  exact ok_law FL A vlist vzip vrange c_source c_draw c_names c_subset c_sorted c_truths c_is
end Mf
open PySem PySem.W PyProof.Rows
set_option maxRecDepth 100000 in
set_option maxHeartbeats 0 in
theorem PySem.Challenge.cw_midfall_k24_policies_told_holds : PySem.Challenge.rw_midfall_k24_policies_told.Holds := by
  w_on; o_law; k_head; (case hw => w_witness2)
  k_fill
  refine Mf.walk (n := 6) (l := PySem.Challenge.rw_midfall_k24_policies_told) rfl rfl ⟨rfl, by decide, by decide⟩ (fun w h Y => PySem.W.kIn_of Y) ?F
  case F =>
    intro w mg fa h KX G hmg
    refine' Mf.all_mk KX G hmg ?aCCn ?pgCn ?hdCn ?poCn ?saCn ?mkCn ?kcCn ?haCn ?hmCn ?ciCn ?ctCn ?kLCn ?kTCn ?neCn ?sfCn ?nCnmembers ?iaCn ?iiCn ?ilCn ?icCn ?ikCn ?t1Cn ?t2Cn ?t3Cn ?t4Cn ?t5Cn ?t6Cn ?aCneq ?lCneq ?cCneq ?kCneq ?iCneq ?nCneq ?aCCb ?pgCb ?hdCb ?poCb ?saCb ?mkCb ?kcCb ?haCb ?hmCb ?ciCb ?ctCb ?kLCb ?kTCb ?neCb ?sfCb ?aCCc ?pgCc ?hdCc ?poCc ?saCc ?mkCc ?kcCc ?haCc ?hmCc ?ciCc ?ctCc ?kLCc ?kTCc ?neCc ?sfCc ?nCcmarks ?aICc ?lICc ?cICc ?kICc ?iICc ?nICc ?aCceq ?lCceq ?cCceq ?kCceq ?iCceq ?nCceq ?aCcstr ?lCcstr ?cCcstr ?kCcstr ?iCcstr ?nCcstr ?aCCt ?pgCt ?hdCt ?poCt ?saCt ?mkCt ?kcCt ?haCt ?hmCt ?ciCt ?ctCt ?kLCt ?kTCt ?neCt ?sfCt ?nCtmarks ?aICt ?lICt ?cICt ?kICt ?iICt ?nICt ?aCteq ?lCteq ?cCteq ?kCteq ?iCteq ?nCteq ?aCtstr ?lCtstr ?cCtstr ?kCtstr ?iCtstr ?nCtstr ?aCCe ?pgCe ?hdCe ?poCe ?saCe ?mkCe ?kcCe ?haCe ?hmCe ?ciCe ?ctCe ?kLCe ?kTCe ?neCe ?sfCe ?nCemarks ?iaCe ?iiCe ?ilCe ?icCe ?ikCe ?t1Ce ?t2Ce ?t3Ce ?t4Ce ?t5Ce ?t6Ce ?aCeeq ?lCeeq ?cCeeq ?kCeeq ?iCeeq ?nCeeq ?aCestr ?lCestr ?cCestr ?kCestr ?iCestr ?nCestr ?hn ?htk ?uS ?uN ?uB ?cwCc ?swCc ?sbCc ?bSCc ?bNCc ?nfCcCc ?nfCcCt ?nfCcCe ?cwCt ?swCt ?sbCt ?bSCt ?bNCt ?nfCtCc ?nfCtCt ?nfCtCe ?cwCe ?swCe ?sbCe ?bSCe ?bNCe ?nfCeCc ?nfCeCt ?nfCeCe ?aDSource ?lDSource ?cDSource ?kDSource ?aDDraw ?lDDraw ?cDDraw ?kDDraw ?aDName ?lDName ?cDName ?kDName ?aDNames ?lDNames ?cDNames ?kDNames ?aDSubset ?lDSubset ?cDSubset ?kDSubset ?aDSorted ?lDSorted ?cDSorted ?kDSorted ?aDTruths ?lDTruths ?cDTruths ?kDTruths ?aDIs ?lDIs ?cDIs ?kDIs ?aDLaw ?lDLaw ?cDLaw ?kDLaw ?zint ?zenumerate ?zrange ?zlist ?ztuple ?zsorted ?zstr ?zall ?zisinstance ?zbool ?zlen ?zset ?zzip
    (case aCCn => k_is)
    (case pgCn => k_is)
    (case hdCn => k_is)
    (case poCn => k_is)
    (case saCn => k_is)
    (case mkCn => k_is)
    (case kcCn => k_is)
    (case haCn => k_is)
    (case hmCn => k_is)
    (case ciCn => k_is)
    (case ctCn => k_is)
    (case kLCn => k_is)
    (case kTCn => k_is)
    (case neCn => k_is)
    (case sfCn => k_is)
    (case nCnmembers => k_is)
    (case iaCn => k_is)
    (case iiCn => k_is)
    (case ilCn => k_is)
    (case icCn => k_is)
    (case ikCn => k_is)
    (case t1Cn => k_is)
    (case t2Cn => rfl)
    (case t3Cn => rfl)
    (case t4Cn => k_is)
    (case t5Cn => rfl)
    (case t6Cn => rfl)
    (case aCneq => k_is)
    (case lCneq => k_is)
    (case cCneq => k_is)
    (case kCneq => k_is)
    (case iCneq => k_is)
    (case nCneq => k_is)
    (case aCCb => k_is)
    (case pgCb => k_is)
    (case hdCb => k_is)
    (case poCb => k_is)
    (case saCb => k_is)
    (case mkCb => k_is)
    (case kcCb => k_is)
    (case haCb => k_is)
    (case hmCb => k_is)
    (case ciCb => k_is)
    (case ctCb => k_is)
    (case kLCb => k_is)
    (case kTCb => k_is)
    (case neCb => k_is)
    (case sfCb => k_is)
    (case aCCc => k_is)
    (case pgCc => k_is)
    (case hdCc => k_is)
    (case poCc => k_is)
    (case saCc => k_is)
    (case mkCc => k_is)
    (case kcCc => k_is)
    (case haCc => k_is)
    (case hmCc => k_is)
    (case ciCc => k_is)
    (case ctCc => k_is)
    (case kLCc => k_is)
    (case kTCc => k_is)
    (case neCc => k_is)
    (case sfCc => k_is)
    (case nCcmarks => k_is)
    (case aICc => k_is)
    (case lICc => k_is)
    (case cICc => k_is)
    (case kICc => k_is)
    (case iICc => k_is)
    (case nICc => k_is)
    (case aCceq => k_is)
    (case lCceq => k_is)
    (case cCceq => k_is)
    (case kCceq => k_is)
    (case iCceq => k_is)
    (case nCceq => k_is)
    (case aCcstr => k_is)
    (case lCcstr => k_is)
    (case cCcstr => k_is)
    (case kCcstr => k_is)
    (case iCcstr => k_is)
    (case nCcstr => k_is)
    (case aCCt => k_is)
    (case pgCt => k_is)
    (case hdCt => k_is)
    (case poCt => k_is)
    (case saCt => k_is)
    (case mkCt => k_is)
    (case kcCt => k_is)
    (case haCt => k_is)
    (case hmCt => k_is)
    (case ciCt => k_is)
    (case ctCt => k_is)
    (case kLCt => k_is)
    (case kTCt => k_is)
    (case neCt => k_is)
    (case sfCt => k_is)
    (case nCtmarks => k_is)
    (case aICt => k_is)
    (case lICt => k_is)
    (case cICt => k_is)
    (case kICt => k_is)
    (case iICt => k_is)
    (case nICt => k_is)
    (case aCteq => k_is)
    (case lCteq => k_is)
    (case cCteq => k_is)
    (case kCteq => k_is)
    (case iCteq => k_is)
    (case nCteq => k_is)
    (case aCtstr => k_is)
    (case lCtstr => k_is)
    (case cCtstr => k_is)
    (case kCtstr => k_is)
    (case iCtstr => k_is)
    (case nCtstr => k_is)
    (case aCCe => k_is)
    (case pgCe => k_is)
    (case hdCe => k_is)
    (case poCe => k_is)
    (case saCe => k_is)
    (case mkCe => k_is)
    (case kcCe => k_is)
    (case haCe => k_is)
    (case hmCe => k_is)
    (case ciCe => k_is)
    (case ctCe => k_is)
    (case kLCe => k_is)
    (case kTCe => k_is)
    (case neCe => k_is)
    (case sfCe => k_is)
    (case nCemarks => k_is)
    (case iaCe => k_is)
    (case iiCe => k_is)
    (case ilCe => k_is)
    (case icCe => k_is)
    (case ikCe => k_is)
    (case t1Ce => k_is)
    (case t2Ce => rfl)
    (case t3Ce => rfl)
    (case t4Ce => k_is)
    (case t5Ce => rfl)
    (case t6Ce => rfl)
    (case aCeeq => k_is)
    (case lCeeq => k_is)
    (case cCeeq => k_is)
    (case kCeeq => k_is)
    (case iCeeq => k_is)
    (case nCeeq => k_is)
    (case aCestr => k_is)
    (case lCestr => k_is)
    (case cCestr => k_is)
    (case kCestr => k_is)
    (case iCestr => k_is)
    (case nCestr => k_is)
    (case hn => k_is)
    (case htk => k_is)
    (case uS => k_is)
    (case uN => k_is)
    (case uB => k_is)
    (case cwCc => k_is)
    (case swCc => k_is)
    (case sbCc => k_is)
    (case bSCc => k_is)
    (case bNCc => k_is)
    (case nfCcCc => k_is)
    (case nfCcCt => k_is)
    (case nfCcCe => k_is)
    (case cwCt => k_is)
    (case swCt => k_is)
    (case sbCt => k_is)
    (case bSCt => k_is)
    (case bNCt => k_is)
    (case nfCtCc => k_is)
    (case nfCtCt => k_is)
    (case nfCtCe => k_is)
    (case cwCe => k_is)
    (case swCe => k_is)
    (case sbCe => k_is)
    (case bSCe => k_is)
    (case bNCe => k_is)
    (case nfCeCc => k_is)
    (case nfCeCt => k_is)
    (case nfCeCe => k_is)
    (case aDSource => k_is)
    (case lDSource => k_is)
    (case cDSource => k_is)
    (case kDSource => k_is)
    (case aDDraw => k_is)
    (case lDDraw => k_is)
    (case cDDraw => k_is)
    (case kDDraw => k_is)
    (case aDName => k_is)
    (case lDName => k_is)
    (case cDName => k_is)
    (case kDName => k_is)
    (case aDNames => k_is)
    (case lDNames => k_is)
    (case cDNames => k_is)
    (case kDNames => k_is)
    (case aDSubset => k_is)
    (case lDSubset => k_is)
    (case cDSubset => k_is)
    (case kDSubset => k_is)
    (case aDSorted => k_is)
    (case lDSorted => k_is)
    (case cDSorted => k_is)
    (case kDSorted => k_is)
    (case aDTruths => k_is)
    (case lDTruths => k_is)
    (case cDTruths => k_is)
    (case kDTruths => k_is)
    (case aDIs => k_is)
    (case lDIs => k_is)
    (case cDIs => k_is)
    (case kDIs => k_is)
    (case aDLaw => k_is)
    (case lDLaw => k_is)
    (case cDLaw => k_is)
    (case kDLaw => k_is)
    (case zint => k_is)
    (case zenumerate => k_is)
    (case zrange => k_is)
    (case zlist => k_is)
    (case ztuple => k_is)
    (case zsorted => k_is)
    (case zstr => k_is)
    (case zall => k_is)
    (case zisinstance => k_is)
    (case zbool => k_is)
    (case zlen => k_is)
    (case zset => k_is)
    (case zzip => k_is)
