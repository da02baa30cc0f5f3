import PyProof.Rows.All
import Wide.All
import OpenK.AllK
import Wide.FinOn
import HandS.ForExc
import HandS.ForMost
import HandS.IsInst
import HandS.Wide
import HandS.Walk
import HandS.TupAny
import HandS.Defaults
import HandS.SlotsOwn
import HandS.Codes
import HandS.RaiseMore
import HandS.Set
import HandS.More
import HandS.SetTxt0
import HandS.SetFor
import PyProof.Rows.SortShellAny
import PyProof.InstEq
import HandS.Iter
import KE.GoesEnumKw
import KE.GoesMore
import PyProof.Draws
import KE.KDictWalk
import PyProof.ListRange
import PyProof.CollectWalk
import PyProof.TupleCall
import KE.KDictList
import KE.KEqDict
import HandS.Base
import HandS.Call
import HandS.List
import HandS.Dict
import PyProof.TupleOfSeq
import HandS.DictComp
import HandS.Conv
import HandS.Flow
import HandS.Words
import HandS.Deep
import HandS.MakeKwOnly
import PyProof.P3In
import KE.KDictDisplayH
import PyProof.Rows.TupDisplay
import HandS.Small
import HandS.Strs
import HandS.Style
import PySem.Challenge.RW_midfall_k90_reads_in_another_order
set_option Elab.async false
set_option maxRecDepth 100000
/-! Heaps with a source of draws; calls by one fact; texts that are names. -/
namespace Mf
open PySem L2

/-! ### heaps -/
/-- all that was tracked but what stands at a is as it was -/
def Kp (a : Addr) (H H' : Hp) : Prop := ∀ b o, b ≠ a → H b = some o → H' b = some o
theorem Kp.refl {a : Addr} {H : Hp} : Kp a H H := fun _ _ _ h => h
theorem Kp.trans {a : Addr} {H H1 H2 : Hp} (x : Kp a H H1) (y : Kp a H1 H2) : Kp a H H2 := fun b o n h => y b o n (x b o n h)
theorem Kp.same {a : Addr} {H H' : Hp} (x : Same H H') : Kp a H H' := fun b o _ h => x b o h
theorem Kp.then {a : Addr} {H H1 H2 : Hp} (x : Kp a H H1) (y : Same H1 H2) : Kp a H H2 := x.trans (.same y)
theorem Kp.new {a p : Addr} {H : Hp} {o : HO} (h : H p = none) : Kp a H (upd H p o) := fun b u _ e => by rw [upd_ne (ne_of_none e h)]; exact e
theorem Kp.put {a : Addr} {H H1 : Hp} {o : HO} (x : Kp a H H1) : Kp a H (upd H1 a o) := fun b u n e => by rw [upd_ne n]; exact x b u n e
/-- p was not there at H: it may change -/
theorem Kp.mut {a p : Addr} {H H1 : Hp} {o : HO} (x : Kp a H H1) (h : H p = none) : Kp a H (upd H1 p o) := fun b u n e => by rw [upd_ne (ne_of_none e h)]; exact x b u n e
theorem Kp.lst {K : PySem.W.Frag} {a t : Addr} {H H' : Hp} {xs : List V} (x : Kp a H H') (n : t ≠ a) (h : SqL K H t xs) : SqL K H' t xs := by
  rcases h with (h | ⟨o, h⟩) | h
  · exact .inl (.inl (x _ _ n h))
  · exact .inl (.inr ⟨o, x _ _ n h⟩)
  · exact .inr h
theorem Kp.tup {K : PySem.W.Frag} {a t : Addr} {H H' : Hp} {xs : List V} (x : Kp a H H') (n : t ≠ a) (h : SqT K H t xs) : SqT K H' t xs := by
  rcases h with (h | ⟨o, h⟩) | h
  · exact .inl (.inl (x _ _ n h))
  · exact .inl (.inr ⟨o, x _ _ n h⟩)
  · exact .inr h
theorem _root_.L2.Same.new {p : Addr} {H : Hp} {o : HO} (h : H p = none) : Same H (upd H p o) := fun b u e => by rw [upd_ne (ne_of_none e h)]; exact e
theorem _root_.L2.Same.mut {p : Addr} {H H1 : Hp} {o : HO} (x : Same H H1) (h : H p = none) : Same H (upd H1 p o) := fun b u e => by rw [upd_ne (ne_of_none e h)]; exact x b u e
theorem _root_.L2.Same.tup {K : PySem.W.Frag} {t : Addr} {H H' : Hp} {xs : List V} (x : Same H H') (h : SqT K H t xs) : SqT K H' t xs := by
  rcases h with (h | ⟨o, h⟩) | h
  · exact .inl (.inl (x _ _ h))
  · exact .inl (.inr ⟨o, x _ _ h⟩)
  · exact .inr h
theorem ne_none {H : Hp} {p a : Addr} {o : HO} (h : H p = none) (h' : H a = some o) : p ≠ a := fun e => by rw [e, h'] at h; cases h

/-! ### the source of draws -/
/-- at a: a source that has n draws left, and more -/
def Src (H : Hp) (a : Addr) (n : Nat) : Prop := ∃ g s c : Int, H a = some (.lst [.int g, .int s, .int c]) ∧ 0 ≤ s ∧ s < 2147483647 ∧ 0 ≤ c ∧ c + n ≤ 1099511627776
theorem Src.mono {H : Hp} {a : Addr} {n m : Nat} (x : Src H a n) (h : m ≤ n) : Src H a m := let ⟨g, s, c, e, a1, a2, a3, a4⟩ := x; ⟨g, s, c, e, a1, a2, a3, by omega⟩
theorem Src.same {H H' : Hp} {a : Addr} {n : Nat} (x : Src H a n) (h : Same H H') : Src H' a n := let ⟨g, s, c, e, r⟩ := x; ⟨g, s, c, h _ _ e, r⟩
theorem Src.ne {H : Hp} {a p : Addr} {n : Nat} (x : Src H a n) (h : H p = none) : p ≠ a := let ⟨_, _, _, e, _⟩ := x; ne_none h e
theorem Src.new {H : Hp} {a p : Addr} {n : Nat} {o : HO} (x : Src H a n) (h : H p = none) : Src (upd H p o) a n := x.same (Same.new h)
theorem Src.put {H : Hp} {a p : Addr} {n : Nat} {o : HO} (x : Src H a n) (h : p ≠ a) : Src (upd H p o) a n := let ⟨g, s, c, e, r⟩ := x; ⟨g, s, c, by rw [upd_ne (Ne.symm h)]; exact e, r⟩

/-! ### a def that is called by its name: one fact -/
structure Cal (P : Program) (w : World) (K : PySem.W.Frag) (mg : Str → Option Value) (base : Heap) (CX : CXT) (k : Nat) (x : Str) (ps : List Str) (sp : Sp) : Prop where
  ex : ∃ (f : Addr) (fd : FuncData), FnOk P w K mg base CX k f fd ps sp ∧ mg x = some (.ref f) ∧ PySem.W.keepIn K (.ref f) = true ∧ Binds K fd ps []
theorem pe_cal {X : Cx} {CX : CXT} {k : Nat} {x : Str} {ps : List Str} {sp : Sp} {E : XK} {e : Expr} {es : List Expr} {t : TA} {p pos : Pos} (c : Cal X.prog X.w X.K X.mg X.base CX k x ps sp) (hr : Room k X.A) (hx : Passes CX X E) (ha : PA X (e :: es) t) (hg : Gl X x := by rfl)
    (hdb : (x == ("__debug__" : Str)) = false := by decide) (he : starEach (e :: es) X.env = (false, eval e X.env) :: starEach es X.env := by rfl) (hpl : (backTo pos (starEach es X.env)).any (·.1) = false := by rfl) :
    PE X (.Call (.Name x p) (e :: es) [] pos) (tCall sp [] E t) := by
  obtain ⟨f, fd, F, m, kp, b⟩ := c.ex
  exact pe_call F hr hg m kp b .nil hx ha hdb he hpl
theorem Cal.mono {P : Program} {w : World} {K : PySem.W.Frag} {mg : Str → Option Value} {base : Heap} {CX : CXT} {k j : Nat} {x : Str} {ps : List Str} {sp : Sp} (c : Cal P w K mg base CX k x ps sp) (h : k ≤ j) : Cal P w K mg base CX j x ps sp :=
  let ⟨f, fd, F, m, kp, b⟩ := c.ex
  ⟨⟨f, fd, F.mono h, m, kp, b⟩⟩

/-! ### names -/
def Low (c : Nat) : Prop := 97 ≤ c ∧ c ≤ 122
def IsName (z : Str) : Prop := 1 ≤ z.cps.size ∧ z.cps.size ≤ 8 ∧ ∀ c ∈ z.cps.toList, Low c
instance (z : Str) : Decidable (IsName z) := by unfold IsName Low; infer_instance
theorem IsName.len {z : Str} (h : IsName z) : z.length ≤ 8 := h.2.1

theorem alpha_at {i : Int} (h0 : 0 ≤ i) (h : i < 26) : ∃ c, atI ("abcdefghijklmnopqrstuvwxyz" : Str).cps.toList i = some c ∧ Low c := by
  obtain ⟨n, rfl⟩ := Int.eq_ofNat_of_zero_le h0
  have e : ∀ n : Fin 26, atI ("abcdefghijklmnopqrstuvwxyz" : Str).cps.toList ((n.val : Nat) : Int) = some (97 + n.val) := by decide +kernel
  exact ⟨97 + n, e ⟨n, by omega⟩, by unfold Low; omega⟩

theorem atI_mem {α : Type} {xs : List α} {v : Int} (h0 : 0 ≤ v) (h : v < xs.length) : ∃ x ∈ xs, atI xs v = some x := by
  obtain ⟨n, rfl⟩ := Int.eq_ofNat_of_zero_le h0
  have hn : n < xs.length := by omega
  refine ⟨xs[n], List.getElem_mem hn, ?_⟩
  exact atI_nat (List.getElem?_eq_getElem hn)
theorem inV_str {z : Str} {zs : List Str} : inV (.str z) (zs.map V.str) = decide (z ∈ zs) := by
  unfold inV
  induction zs with
  | nil => rfl
  | cons y ys ih =>
    rw [List.map_cons, List.any_cons, ih]
    show ((y == z) || _) = _
    by_cases h : y = z
    · subst h; simp
    · have h' : ¬ z = y := fun e => h e.symm
      simp [h, h']
theorem tl_inj {x y : Str} (h : x.cps.toList = y.cps.toList) : x = y := by
  cases x; cases y
  simp only [Str.mk.injEq]
  exact Array.toList_inj.mp h
theorem join_nil (ys : List Str) : (Txt.join ("" : Str) ys).cps.toList = (ys.map fun y => y.cps.toList).flatten := by
  rw [TL.join_eq, show (Str.join ("" : Str) ys).cps.toList = TL.tl (Str.join ("" : Str) ys) from rfl, TL.tl_join]
  show TL.joinL [] (ys.map TL.tl) = _
  generalize ys.map TL.tl = l
  induction l with
  | nil => rfl
  | cons p r ih =>
    cases r with
    | nil => simp [TL.joinL]
    | cons q r => show p ++ ([] ++ TL.joinL [] (q :: r)) = _; rw [ih]; simp
theorem join_signs (cs : List Nat) : Txt.join ("" : Str) (cs.map fun c => (⟨#[c]⟩ : Str)) = ⟨cs.toArray⟩ := by
  refine tl_inj ?_
  rw [join_nil, List.map_map]
  show (cs.map fun c => [c]).flatten = cs
  induction cs with
  | nil => rfl
  | cons c cs ih => rw [List.map_cons, List.flatten_cons, ih]; rfl
theorem str_add (x y : Str) : (x ++ y).cps.toList = x.cps.toList ++ y.cps.toList := TL.tl_append x y
theorem len_tl (z : Str) : z.length = z.cps.toList.length := by show z.cps.size = _; rw [Array.length_toList]

/-! ### rules whose reading names the written part (for comprehensions' blocks) -/
section
variable (K : PySem.W.Frag) {X : Cx}
theorem ixl (h : X.K = K := by rfl) : IxR X (rIxL K) := h ▸ ix_list
theorem ixt (h : X.K = K := by rfl) : IxR X (rIxT K) := h ▸ ix_tup
theorem oin (h : X.K = K := by rfl) : OpR X (compareOp .In) (rIn K false) := h ▸ op_in_seq
theorem nin (h : X.K = K := by rfl) : OpR X (compareOp .NotIn) (rIn K true) := h ▸ op_notIn_seq
def rLenK : List V → Hp → VK → Prop := fun xs H Q => ∃ p ys, xs = [.ref p] ∧ (SqL K H p ys ∨ SqT K H p ys) ∧ Q (.int (ys.length : Nat)) H
theorem k_len (h : X.K = K := by rfl) : CallR X (.builtin "len") (rLenK K) := h ▸ call_len_seq
def rListK : List V → Hp → VK → Prop := fun xs H Q => ∃ p ys, xs = [.ref p] ∧ (SqL K H p ys ∨ SqT K H p ys) ∧ ∀ l, H l = none → Q (.ref l) (upd H l (.lst ys))
theorem k_list (h : X.K = K := by rfl) : CallR X (.type "list") (rListK K) := h ▸ call_list_of
def rTupK : List V → Hp → VK → Prop := fun xs H Q => ∃ p ys, xs = [.ref p] ∧ ((SqL K H p ys ∧ ∀ l, H l = none → Q (.ref l) (upd H l (.tup ys))) ∨ (SqT K H p ys ∧ Q (.ref p) H))
theorem k_tuple (h : X.K = K := by rfl) : CallR X (.type "tuple") (rTupK K) := h ▸ call_tuple_of
theorem k_isi (h : X.K = K := by rfl) : CallR X (.builtin "isinstance") (rIsi K) := h ▸ call_isi
theorem k_all (hc : X.calm = true := by rfl) (h : X.K = K := by rfl) : CallR X (.builtin "all") (rAll K) := h ▸ cr_all hc
theorem k_any (hc : X.calm = true := by rfl) (h : X.K = K := by rfl) : CallR X (.builtin "any") (rAny K) := h ▸ cr_any hc
theorem k_sortedS (h : X.K = K := by rfl) : CallR X (.builtin "sorted") (rSortedS K) := h ▸ cr_sortedS
theorem eqD {k : Nat} (hr : Room k X.A) (h : X.K = K := by rfl) : OpR X (compareOp .Eq) (rEqD K) := h ▸ op_eqD hr.units
theorem neD {k : Nat} (hr : Room k X.A) (h : X.K = K := by rfl) : OpR X (compareOp .NotEq) (rNeD K) := h ▸ op_neD hr.units
theorem fldK {e : Expr} {ta : TE} {f : Str} {pos : Pos} (he : PE X e ta) (hb : attributeBase e f X.env (eval e X.env) = eval e X.env := by rfl) (h : X.K = K := by rfl) : PE X (.Attribute e f pos) (tFld K ta f) := h ▸ pe_fld he hb
end
theorem yes_then {σ : L2.St} {H : Hp} {A B : Hp → Prop} (h : A H) : tYes σ H (fun b H3 => if b = true then A H3 else B H3) := by
  show (if true = true then A H else B H)
  rw [if_pos rfl]
  exact h
end Mf

/-! Sets of texts built by set(xs), and sorted(..) of them. -/
namespace Mf
open PySem PySem.Spec PyProof.Rows L2 PySem.Froz

section
variable {P : Program} {w : World} {A : Around} {E : Value → Shared → Prop} {s : Shared} {a : Addr} {l : List Str} {k : Str} {u : Tok}

/-- a set of the texts l (each once) at a -/
def TxR (P : Program) (w : World) (h : Heap) (a : Addr) (l : List Str) : Prop :=
  (∃ D : SD, h.get? a = some (sObj "set" D) ∧ TxOk P w D l ∧ Ris D.2.2.place.toList ∧ (w.params.followText "set-order" = true ∨ D.2.2.led = true)) ∧ l.Nodup ∧ l.length < scanBound

theorem TxR.keep {h h' : Heap} (R : TxR P w h a l) (q : ∀ o, h.get? a = some o → h'.get? a = some o) : TxR P w h' a l :=
  let ⟨⟨D, e, z⟩, n, f⟩ := R
  ⟨⟨D, q _ e, z⟩, n, f⟩

theorem add_order (D : SD) (x : Int) (v : Value) (r : Ris D.2.2.place.toList) : Ris (addTx x v D).2.2.place.toList ∧ (addTx x v D).2.2.led = D.2.2.led := by
  obtain ⟨es, ep, t⟩ := D
  have r1 := layNew_ris t es x v r
  have l1 := layNew_led t es x v
  show Ris (tailTx ep (layNew t es x v).1 (if (layNew t es x v).2.1.plain = true then { (layNew t es x v).2.1 with plain := false } else (layNew t es x v).2.1) (layNew t es x v).2.2.1).2.2.place.toList ∧ (tailTx ep (layNew t es x v).1 (if (layNew t es x v).2.1.plain = true then { (layNew t es x v).2.1 with plain := false } else (layNew t es x v).2.1) (layNew t es x v).2.2.1).2.2.led = t.led
  generalize layNew t es x v = Z at r1 l1 ⊢
  obtain ⟨es1, t1, wd, g⟩ := Z
  dsimp only at r1 l1 ⊢
  have r2 : Ris (if t1.plain = true then { t1 with plain := false } else t1).place.toList := by split <;> exact r1
  have l2 : (if t1.plain = true then { t1 with plain := false } else t1).led = t.led := by split <;> exact l1
  generalize (if t1.plain = true then { t1 with plain := false } else t1) = t2 at r2 l2 ⊢
  unfold tailTx
  split
  · exact ⟨relayAll_ris t2 es1 _, (relayAll_led t2 es1 _).trans l2⟩
  · exact ⟨r2, l2⟩

theorem add_dup {Q : Bool → Shared → Prop} {D : SD} (ho : s.heap.get? a = some (sObj "set" D)) (F : TxOk P w D l) (hk : k ∈ l) (hb : l.length < scanBound) (h : Q false s) : wpAny (model P w) A (setAddHashed a (.str k u) (hashStr w k)) Q E s := by
  obtain ⟨es, ep, t⟩ := D
  have dd : (sObj "set" (es, ep, t)).data = .set es ep t := rfl
  have ff : t.fits es.size = true := F.fit
  have el : ElemsOf (strKind P w) es.toList := F.el
  have zz : es.size = l.length := F.sz
  have b0 : es.size < scanBound := by omega
  have key : (strKind P w).is k (.str k u) = true := is_str k u
  unfold setAddHashed setAddHashedIn
  refine wpAny_holding (wpAny_bind (wpAny_setState_of ho dd ff ?_))
  dsimp only
  rw [byScan_of rfl b0 el]
  simp only [↓reduceIte]
  unfold setAddByScan
  refine wpAny_bind ?_
  refine wpAny_bind (wpAny_rule ?_)
  refine wpAny_bind (wpAny_setScan_of (knd := strKind P w) (k := k) key ho dd ff el ?_)
  cases hr : List.findIdx? (fun e => (strKind P w).is k e.2) es.toList with
  | some j => exact wpAny_pure (wpAny_pure h)
  | none =>
    obtain ⟨e, he, q⟩ := (F.mem k).mp hk
    have c := List.findIdx?_eq_none_iff.mp hr e he
    rw [q] at c
    cases c

theorem txr_add {Q : Bool → Shared → Prop} (R : TxR P w s.heap a l) (room : l.length + 1 < scanBound)
    (hQ : ∀ (b : Bool) h' l', Heap.SameBut a s.heap h' → TxR P w h' a l' → (∀ z, z ∈ l' ↔ z ∈ l ∨ z = k) → l'.length ≤ l.length + 1 → Q b { s with heap := h' }) :
    wpAny (model P w) A (setAddHashed a (.str k u) (hashStr w k)) Q E s := by
  obtain ⟨⟨D, ho, F, r, fl⟩, nd, few⟩ := id R
  by_cases hk : k ∈ l
  · refine add_dup ho F hk few ?_
    exact hQ false s.heap l (Heap.SameBut.refl a s.heap) R (fun z => ⟨Or.inl, fun q => q.elim id fun e => e ▸ hk⟩) (Nat.le_succ _)
  · refine add_x ho F hk room ?_
    have o := add_order D (hashStr w k) (.str k u) r
    refine hQ true _ (k :: l) (Heap.SameBut.update s.heap a _) ⟨⟨_, get_upd _ ho rfl, add_ok u F, o.1, fl.imp id fun z => o.2.trans z⟩, List.nodup_cons.mpr ⟨hk, nd⟩, room⟩ (fun z => ?_) (Nat.le_refl _)
    rw [List.mem_cons]
    exact Or.comm

theorem txr_new {h : Heap} (e : h.get? a = some { cls := .type "set", dict := none, data := .set #[] 0 (.fresh 0 0 (!w.params.followText "set-order")) }) : TxR P w h a [] := by
  refine ⟨⟨(#[], 0, .fresh 0 0 (!w.params.followText "set-order")), e, TxOk.nil rfl, List.Pairwise.nil, ?_⟩, List.nodup_nil, by decide⟩
  show _ ∨ (!w.params.followText "set-order") = true
  cases w.params.followText "set-order"
  · exact .inr rfl
  · exact .inl rfl

/-- set.update's turns over texts -/
theorem loop_txt {I : Addr} {fp wr : List Addr} {G : Array GenState → Array GenState → Prop} {n : Nat} {Pv : Nat → Value → Prop} {St : Nat → Shared → Prop} {R : Result → Shared → Prop}
    (W : WalksS P w A.in1 I fp wr G n Pv St) (S : Addr) (nS : S ∉ fp) (xs : List Str) (hn : n = xs.length) (room : n + 1 < scanBound) (val : ∀ i v, Pv i v → ∃ x t, xs[i]? = some x ∧ v = .str x t) :
    ∀ (k i : Nat) (s : Shared), n - i = k → i ≤ n → St i s → (∃ l, TxR P w s.heap S l ∧ (∀ z, z ∈ l ↔ z ∈ xs.take i) ∧ l.length ≤ i) →
      (∀ s' l, Moved (S :: wr) G s s' → TxR P w s'.heap S l → (∀ z, z ∈ l ↔ z ∈ xs) → R (.ok (.ret .none)) s') →
      codeAny (model P w) A (.builtin "set.update.loop" ⟨[.ref S, .ref I], []⟩) R s := by
  have sw : S ∉ wr := fun q => nS (W.sub _ q)
  have sub : ∀ b ∈ wr, b ∈ S :: wr := fun b q => List.mem_cons_of_mem _ q
  intro k
  induction k with
  | zero =>
    rintro i s hk hi hst ⟨l, hS, hm, _⟩ hR
    obtain rfl : i = n := by omega
    refine codeAny_builtin F.entry_set_update_loop ?_
    rw [Around.under_plainId F.plain_set_update_loop _]
    show wpAny _ A.in1 (pyNext (.ref I) >>= _) _ _ s
    refine wpAny_bind (W.done s _ _ hst fun s' mv => ?_)
    show wpAny _ A.in1 (ret Value.none) _ _ s'
    refine wpAny_pure (hR s' l (mv.mono sub) (hS.keep fun o e => mv.heap S o sw e) fun z => ?_)
    rw [hm z, hn, List.take_length]
  | succ k ih =>
    rintro i s hk hi hst ⟨l, hS, hm, hle⟩ hR
    have lt : i < n := by omega
    refine codeAny_builtin F.entry_set_update_loop ?_
    rw [Around.under_plainId F.plain_set_update_loop _]
    show wpAny _ A.in1 (pyNext (.ref I) >>= _) _ _ s
    refine wpAny_bind (W.item i s _ _ lt hst fun v s' pv' hst' mv => ?_)
    obtain ⟨x, t, ex, rfl⟩ := val i v pv'
    have hS' : TxR P w s'.heap S l := hS.keep fun o e => mv.heap S o sw e
    show wpAny _ A.in1 (holding [Value.str x t] (setAdd S (.str x t)) >>= _) _ _ s'
    refine wpAny_bind (wpAny_holding ?_)
    unfold setAdd
    refine wpAny_holding (wpAny_bind ((strKind P w).pyHash (is_str x t) ?_))
    refine txr_add (s := { s' with toks := s'.toks + 1 }) hS' (by omega) fun b h' l' same R' m' le' => ?_
    have tk : xs.take (i + 1) = xs.take i ++ [x] := by rw [List.take_add_one, ex]; rfl
    refine wpAny_pure ⟨plainId_quiet F.plain_set_update_loop _, ih (i + 1) _ (by omega) lt (W.frame _ s' _ _ hst' (Nat.le_add_right _ _) fun b hb o e => ?_) ⟨l', R', fun z => ?_, by omega⟩ fun s'' l2 mv2 R2 m2 => ?_⟩
    · rw [same.2 b (fun q : b = S => nS (q ▸ hb))]
      exact e
    · rw [m' z, hm z, tk, List.mem_append, List.mem_singleton]
    · refine hR s'' l2 (Moved.trans W.gtrans ((mv.mono sub).then_heap (Nat.le_add_right _ _) fun b o hb e => ?_) mv2) R2 m2
      rw [same.2 b (fun q : b = S => hb (q ▸ List.mem_cons_self))]
      exact e

abbrev set0 (w : World) : Obj := { cls := .type "set", dict := none, data := .set #[] 0 (.fresh 0 0 (!w.params.followText "set-order")) }

/-- how a builtin's tree ends, as a result R -/
def FinX (P : Program) (w : World) (B : Around) (R : Result → Shared → Prop) : Fin → Shared → Prop
  | .done f, s' => R (.ok f) s'
  | .again c', s' => c'.quiet = true ∧ codeAny (model P w) B c' R s'

/-- the set at S is filled from what stands at c -/
def Fills (P : Program) (w : World) (s : Shared) (c : Addr) (xs : List Str) : Prop :=
  ∀ (B : Around) (R : Result → Shared → Prop), B.handled = none →
    (∀ (h' : Heap) (tk : Nat) (l : List Str), TxR P w h' s.heap.objs.size l → (∀ z, z ∈ l ↔ z ∈ xs) → (∀ b o, s.heap.get? b = some o → h'.get? b = some o) → R (.ok (.ret .none)) { s with heap := h', toks := tk }) →
    wpAny (model P w) B.in1 (Builtin.«set.__init__» ⟨[.ref s.heap.objs.size, .ref c], []⟩) (FinX P w B R) (fun e s' => R (.error e) s') { s with heap := s.heap.push (set0 w) }

theorem strs_val {us : List Value} {xs : List Str} (h : StrsAre us xs) : us.length = xs.length ∧ ∀ (i : Nat) (v : Value), us[i]? = some v → ∃ x t, xs[i]? = some x ∧ v = .str x t := by
  induction h with
  | nil => exact ⟨rfl, fun i v q => by simp at q⟩
  | cons x t h ih =>
    refine ⟨congrArg (· + 1) ih.1, fun i v q => ?_⟩
    cases i with
    | zero => exact ⟨x, t, rfl, (Option.some.inj q).symm⟩
    | succ i => exact ih.2 i v q

section
variable {items : Array Value} {xs : List Str} {c : Addr}
theorem fill_end {I : Addr} {R : Result → Shared → Prop} (hI : I = s.heap.objs.size + 1)
    (hR : ∀ (h' : Heap) (tk : Nat) (l : List Str), TxR P w h' s.heap.objs.size l → (∀ z, z ∈ l ↔ z ∈ xs) → (∀ b o, s.heap.get? b = some o → h'.get? b = some o) → R (.ok (.ret .none)) { s with heap := h', toks := tk })
    {h0 : Heap} (k0 : ∀ b o, s.heap.get? b = some o → h0.get? b = some o) {s' : Shared} {l : List Str} (mv : Moved [s.heap.objs.size, I] (fun a b => b = a) { s with heap := h0 } s') (T : TxR P w s'.heap s.heap.objs.size l) (m : ∀ z, z ∈ l ↔ z ∈ xs) : R (.ok (.ret .none)) s' := by
  obtain ⟨h', g2, d2, t2, o2⟩ := s'
  have e1 : g2 = s.gens := mv.gens
  have e2 : d2 = s.drawn := mv.drawn
  have e3 : o2 = s.os := mv.os
  subst e1 e2 e3
  refine hR h' t2 l T m fun b o e => mv.heap b o (fun z => ?_) (k0 b o e)
  have lt : b < s.heap.objs.size := Heap.lt_size e
  rcases List.mem_cons.mp z with z | z
  · exact absurd z (Nat.ne_of_lt lt)
  · exact absurd ((List.mem_singleton.mp z).trans hI) (Nat.ne_of_lt (Nat.lt_succ_of_lt lt))

set_option maxHeartbeats 3200000 in
theorem fills_list (hl : s.heap.IsList c items) (hit : StrsAre items.toList xs) (room : xs.length + 1 < scanBound) : Fills P w s c xs := by
  intro B R hh hR
  obtain ⟨len, val⟩ := strs_val hit
  rw [Array.length_toList] at len
  obtain ⟨⟨k, dd, da, sl⟩, hob, hk, n, hd⟩ := hl
  simp only at hk hd
  subst hk hd
  have hob1 : (s.heap.push (set0 w)).get? c = some { cls := .type "list", dict := dd, data := .seq items n, slots := sl } := Heap.get?_push_of_some _ hob
  have f1 := F.sub_list_set
  have f2 := F.sub_list_frozenset
  have f3 : (Value.type "list" == Value.type "dict") = false := by decide
  have isl : (s.heap.push (set0 w)).IsList c items := ⟨_, hob1, rfl, n, rfl⟩
  unfold Builtin.«set.__init__» noKeywords Builtin.Frozenset.updateFrom
  generalize gq : pyIter = PI
  wp_walk
  subst gq
  refine wpAny_pyIter_list isl ?_
  refine wpAny_bind (wpAny_runValue ?_)
  have h3 : B.in1.in1.handled = none := by simp [hh]
  have lt : c < s.heap.objs.size := Heap.lt_size hob
  have z1 : (s.heap.push (set0 w)).objs.size = s.heap.objs.size + 1 := Heap.size_push ..
  have nI : c ≠ (s.heap.push (set0 w)).objs.size := by rw [z1]; exact Nat.ne_of_lt (Nat.lt_succ_of_lt lt)
  have nS : s.heap.objs.size ∉ [(s.heap.push (set0 w)).objs.size, c] := by
    rw [z1]
    simp only [List.mem_cons, List.not_mem_nil, or_false, not_or]
    exact ⟨Nat.ne_of_lt (Nat.lt_succ_self _), Nat.ne_of_gt lt⟩
  have get0 : (s.heap.push (set0 w)).get? s.heap.objs.size = some (set0 w) := Heap.get?_push_size _ rfl
  refine loop_txt ((Walks.list h3 _ c nI items).toS) s.heap.objs.size nS xs len (by omega) (fun i v q => val i v (by rw [Array.getElem?_toList]; exact q)) (items.size - 0) 0 _ (by omega) (Nat.zero_le _)
    ⟨⟨_, Heap.get?_push_size _ rfl, rfl, rfl⟩, isl.push _⟩ ⟨[], txr_new (Heap.get?_push_of_some _ get0), fun z => by simp, Nat.le_refl 0⟩ fun s' l mv T m => ?_
  have q := fill_end (R := R) z1 hR (fun b o e => Heap.get?_push_of_some _ (Heap.get?_push_of_some _ e)) mv T m
  show wpAny _ _ _ _ _ _
  refine wpAny_pure ?_
  show wpAny _ _ (ret Value.none) _ _ _
  exact wpAny_pure q
set_option maxHeartbeats 3200000 in
theorem fills_tuple (hl : s.heap.IsTuple c items) (hit : StrsAre items.toList xs) (room : xs.length + 1 < scanBound) : Fills P w s c xs := by
  intro B R hh hR
  obtain ⟨len, val⟩ := strs_val hit
  rw [Array.length_toList] at len
  obtain ⟨⟨k, dd, da, sl⟩, hob, hk, n, hd⟩ := hl
  simp only at hk hd
  subst hk hd
  have hob1 : (s.heap.push (set0 w)).get? c = some { cls := .type "tuple", dict := dd, data := .seq items n, slots := sl } := Heap.get?_push_of_some _ hob
  have f1 := F.sub_tuple_set
  have f2 := F.sub_tuple_frozenset
  have f3 : (Value.type "tuple" == Value.type "dict") = false := by decide
  have isl : (s.heap.push (set0 w)).IsTuple c items := ⟨_, hob1, rfl, n, rfl⟩
  unfold Builtin.«set.__init__» noKeywords Builtin.Frozenset.updateFrom
  generalize gq : pyIter = PI
  wp_walk
  subst gq
  refine wpAny_pyIter_tuple isl ?_
  refine wpAny_bind (wpAny_runValue ?_)
  have h3 : B.in1.in1.handled = none := by simp [hh]
  have lt : c < s.heap.objs.size := Heap.lt_size hob
  have z1 : (s.heap.push (set0 w)).objs.size = s.heap.objs.size + 1 := Heap.size_push ..
  have nI : c ≠ (s.heap.push (set0 w)).objs.size := by rw [z1]; exact Nat.ne_of_lt (Nat.lt_succ_of_lt lt)
  have nS : s.heap.objs.size ∉ [(s.heap.push (set0 w)).objs.size, c] := by
    rw [z1]
    simp only [List.mem_cons, List.not_mem_nil, or_false, not_or]
    exact ⟨Nat.ne_of_lt (Nat.lt_succ_self _), Nat.ne_of_gt lt⟩
  have get0 : (s.heap.push (set0 w)).get? s.heap.objs.size = some (set0 w) := Heap.get?_push_size _ rfl
  refine loop_txt ((Walks.tuple h3 _ c nI items).toS) s.heap.objs.size nS xs len (by omega) (fun i v q => val i v (by rw [Array.getElem?_toList]; exact q)) (items.size - 0) 0 _ (by omega) (Nat.zero_le _)
    ⟨⟨_, Heap.get?_push_size _ rfl, rfl, rfl⟩, isl.push _⟩ ⟨[], txr_new (Heap.get?_push_of_some _ get0), fun z => by simp, Nat.le_refl 0⟩ fun s' l mv T m => ?_
  have q := fill_end (R := R) z1 hR (fun b o e => Heap.get?_push_of_some _ (Heap.get?_push_of_some _ e)) mv T m
  show wpAny _ _ _ _ _ _
  refine wpAny_pure ?_
  show wpAny _ _ (ret Value.none) _ _ _
  exact wpAny_pure q

set_option maxHeartbeats 3200000 in
/-- set(xs), xs a list or tuple of texts -/
theorem set_call {Q : Value → Shared → Prop} (hh : A.handled = none) (fill : Fills P w s c xs)
    (h : ∀ (h' : Heap) (tk : Nat) (l : List Str), TxR P w h' s.heap.objs.size l → (∀ z, z ∈ l ↔ z ∈ xs) → (∀ b o, s.heap.get? b = some o → h'.get? b = some o) → Q (.ref s.heap.objs.size) { s with heap := h', toks := tk }) :
    wpAny (model P w) A (call (.type "set") [.ref c]) Q E s := by
  obtain ⟨c0, tl, hmro⟩ := F.called_set.mro
  have hmade := F.called_set.made
  have hsub := F.called_set.sub
  refine wpAny_call (codeAny_of_tree ?_)
  show wpAny _ _ (callAny (.type "set") _) _ _ _
  refine wpAny_pure ⟨Code.quiet_builtin _ (by decide +kernel), codeAny_builtin F.entry_type_call ?_⟩
  rw [Around.under_plain (weight_type_call_type "set" [.ref c] []) rfl]
  have h1 := F.called_set.notType
  have h2 := F.called_set.canCreate
  have h3 := F.typeCall_set_1 (.ref c)
  repeat (any_goals (first | assumption | wp_step))
  refine codeAny_mono (code_set_led1 (.ref c) (E := E) (Q₁ := fun obj s₁ => obj = .ref s.heap.objs.size ∧ s₁ = { s with heap := s.heap.push (set0 w) }) ⟨rfl, rfl⟩) fun r s1 hr => ?_
  rcases r with e | fl
  · exact hr
  rcases fl with _ | _ | _ | obj
  all_goals try exact hr.elim
  obtain ⟨rfl, rfl⟩ := hr
  have hS : (s.heap.push (set0 w)).get? s.heap.objs.size = some (set0 w) := Heap.get?_push_size _ rfl
  have tS : Shared.TypeIs { s with heap := s.heap.push (set0 w) } (.ref s.heap.objs.size) "set" := ⟨_, hS, rfl⟩
  have i1 := F.called_set.init.lookup
  have i2 := F.called_set.init.bind (.ref s.heap.objs.size)
  repeat (any_goals (first | assumption | wp_step))
  refine codeAny_mono (codeAny_call_builtin (R := wants (fun r s₂ => r = .none ∧ ∃ h' tk l, s₂ = { s with heap := h', toks := tk } ∧ TxR P w h' s.heap.objs.size l ∧ (∀ z, z ∈ l ↔ z ∈ xs) ∧ (∀ b o, s.heap.get? b = some o → h'.get? b = some o)) E)
    F.called_set.init.plain F.entry_set_init (check_set_init_1 tS ?_)) fun r2 s2 h2 => ?_
  · refine wpAny_mono (fill A.in1 (wants (fun r s₂ => r = .none ∧ ∃ h' tk l, s₂ = { s with heap := h', toks := tk } ∧ TxR P w h' s.heap.objs.size l ∧ (∀ z, z ∈ l ↔ z ∈ xs) ∧ (∀ b o, s.heap.get? b = some o → h'.get? b = some o)) E) (by simp [hh])
      fun h' tk l T m k => ⟨rfl, h', tk, l, rfl, T, m, k⟩) (fun fin s' q => ?_) fun _ _ q => q
    cases fin <;> exact q
  · rcases r2 with e | fl
    · exact h2
    rcases fl with _ | _ | _ | obj
    all_goals try exact h2.elim
    obtain ⟨rfl, h', tk, l, rfl, R, m, k⟩ := h2
    repeat (any_goals (first | assumption | wp_step))
    exact h _ _ _ R m k

theorem strs_get {l : List Str} : ∀ {vs : List Value}, (∀ v ∈ vs, ∃ x t, v = .str x t) → ∃ ys, StrsAre vs ys
  | [], _ => ⟨[], .nil⟩
  | v :: vs, h => by
    obtain ⟨x, t, rfl⟩ := h v List.mem_cons_self
    obtain ⟨ys, q⟩ := strs_get (l := l) fun u hu => h u (List.mem_cons_of_mem _ hu)
    exact ⟨x :: ys, .cons x t q⟩
theorem strs_mem {x : Str} : ∀ {vs : List Value} {ys : List Str}, StrsAre vs ys → (x ∈ ys ↔ ∃ t, Value.str x t ∈ vs)
  | _, _, .nil => by simp
  | _, _, .cons y t h => by
    rw [List.mem_cons, strs_mem h]
    constructor
    · rintro (rfl | ⟨u, q⟩)
      · exact ⟨t, List.mem_cons_self⟩
      · exact ⟨u, List.mem_cons_of_mem _ q⟩
    · rintro ⟨u, q⟩
      rcases List.mem_cons.mp q with e | q
      · injection e with e _
        exact .inl e
      · exact .inr ⟨u, q⟩

/-- sorted(a set of texts) -/
theorem sorted_txr {a : Addr} {l : List Str} {Q : Value → Shared → Prop} (T : TxR P w s.heap a l) (hh : A.handled = none)
    (hQ : ∀ s' p (out : Array Value) (c : Nat) (ys : List Str), (∀ b o, s.heap.get? b = some o → s'.heap.get? b = some o) → s'.gens = s.gens → s'.os = s.os → s.heap.objs.size ≤ p →
      s'.heap.get? p = some (seqObj "list" out c) → StrsAre out.toList ys → sortedS ys = true → (∀ z, z ∈ ys ↔ z ∈ l) → ys.length = l.length → Q (.ref p) s') :
    wpAny (model P w) A (call (.builtin "sorted") [.ref a]) Q E s := by
  obtain ⟨⟨⟨es, ep, t⟩, ho, F, r, fl⟩, nd, few⟩ := T
  have zz : es.size = l.length := F.sz
  refine Calls.call_function_entry kind_sorted plain_sorted entry_sorted (args_sorted1 _) ?_
  unfold Builtin.«sorted»
  refine wpAny_bind (m := checkCount "sorted" 1 1 _) (wpAny_pure ?_)
  refine wpAny_bind (collect_set (A := A.in1) hh ⟨_, ho, rfl, rfl⟩ F.fit (by rw [zz]; exact few) r fl fun s1 vs k1 hz g1 o1 pm => ?_)
  have all : ∀ v ∈ vs, ∃ x t, v = .str x t := fun v hv => by
    obtain ⟨e, he, rfl⟩ := List.mem_map.mp (pm.mem_iff.mp hv)
    obtain ⟨⟨x, hx, _⟩, _⟩ := F.el e he
    obtain ⟨t, q⟩ := Value.isStrOf_shape (x := x) (v := e.2) hx
    exact ⟨x, t, q⟩
  obtain ⟨ws, hS⟩ := strs_get (l := l) all
  have len := (strs_val hS).1
  have lvs : vs.length = l.length := by rw [pm.length_eq, List.length_map, Array.length_toList]; exact zz
  have mem : ∀ z, z ∈ ws ↔ z ∈ l := fun z => by
    rw [strs_mem hS, F.mem z]
    constructor
    · rintro ⟨t, q⟩
      obtain ⟨e, he, e2⟩ := List.mem_map.mp (pm.mem_iff.mp q)
      exact ⟨e, he, by rw [e2]; exact is_str z t⟩
    · rintro ⟨e, he, q⟩
      obtain ⟨t, e2⟩ := Value.isStrOf_shape (x := z) (v := e.2) q
      exact ⟨t, pm.mem_iff.mpr (List.mem_map.mpr ⟨e, he, e2⟩)⟩
  have few2 : vs.length ≤ sizeLine := by rw [lvs]; exact fits_of_scanBound few
  refine wpAny_bind (wpAny_newList ?_ few2)
  have hoL : (s1.heap.push (seqObj "list" vs.toArray 0)).get? s1.heap.objs.size = some (seqObj "list" vs.toArray 0) := Heap.get?_push_size _ rfl
  refine wpAny_bind (wpAny_holding (wpAny_call_entry slot_list_sort ⟨_, hoL, rfl⟩ entry_list_sort (list_sort_treeKAny strKind_oneLt hoL hS.keysOf (fun v₁ v₂ rest e => keyKind_strs (by rw [← e]; exact hS)) few2 fun st' hp hs => ⟨_, rfl, ?_⟩) (args_list_sort _)))
  obtain ⟨ys, g1', g2, g3⟩ := sorted_out_str hS hp hs
  obtain ⟨c, hc⟩ := sortedHeap_at (vs := vs) (out := (arrOf st').map (·.2)) hoL
  refine wpAny_pure ⟨_, rfl, hQ _ s1.heap.objs.size _ c ys (fun b u e => ?_) g1 o1 hz hc g1' g3 (fun z => by rw [g2.mem_iff, mem z]) (by rw [g2.length_eq, ← len, lvs])⟩
  have q := k1 b u e
  have lt := Heap.lt_size q
  show (sortedHeap (s1.heap.push (seqObj "list" vs.toArray 0)) s1.heap.objs.size vs _).get? b = some u
  rw [sortedHeap_old (Nat.ne_of_lt lt) (by rw [size_push']; exact Nat.lt_succ_of_lt lt)]
  exact Heap.get?_push_of_some _ q
end
end

/-! ### over the hand layer -/
section
variable {X : Cx}
def TxO (P : Program) (w : World) (a : Addr) (l : List Str) : HO := .ext fun h => TxR P w h a l
theorem txo_new {P : Program} {w : World} {H : Hp} {h : Heap} {a : Addr} {l : List Str} (R : TxR P w h a l) : ObjOk P w H h a (TxO P w a l) :=
  ⟨R, let ⟨⟨_, e, _⟩, _⟩ := R; ⟨_, e⟩, fun _ _ q k => q.keep k⟩

/-- set(xs) of a list or tuple of texts -/
def rSetS (K : PySem.W.Frag) (P : Program) (w : World) : List V → Hp → VK → Prop := fun vs H Q => ∃ (c : Addr) (xs : List Str), vs = [.ref c] ∧ (SqL K H c (xs.map V.str) ∨ SqT K H c (xs.map V.str)) ∧ xs.length < 4000 ∧
  ∀ (p : Addr) (l : List Str), H p = none → l.Nodup → (∀ z, z ∈ l ↔ z ∈ xs) → Q (.ref p) (upd H p (TxO P w p l))
theorem cr_setS (hc : X.calm = true) : CallR X (.type "set") (rSetS X.K X.prog X.w) := by
  intro pins s σ H vs us Q I r h
  obtain ⟨c, xs, rfl, hs, few, q⟩ := h
  rw [Vals.ref1 r]
  have hn : H s.heap.objs.size = none := I.hok.fresh (Nat.le_refl _)
  have fill : Fills X.prog X.w s c xs := by
    rcases hs with hs | hs
    · obtain ⟨its, rv, pl, hz⟩ := I.list hs
      exact fills_list pl.isList (by simpa using rv.strs) (by unfold scanBound; omega)
    · obtain ⟨its, rv, pl, hz⟩ := I.tuple hs
      exact fills_tuple pl (by simpa using rv.strs) (by unfold scanBound; omega)
  refine set_call (I.ok.hd hc) fill fun h' tk l T m k => ?_
  exact ⟨.ref s.heap.objs.size, _, I.laid (t' := tk) k (Nat.le_refl _) (txo_new T), rfl, q _ l hn T.2.1 m⟩

/-- sorted(a set of texts) -/
def rSortedX (P : Program) (w : World) : List V → Hp → VK → Prop := fun vs H Q => ∃ (a : Addr) (l : List Str), vs = [.ref a] ∧ H a = some (TxO P w a l) ∧
  ∀ (ys : List Str) (p : Addr), sortedS ys = true → (∀ z, z ∈ ys ↔ z ∈ l) → ys.length = l.length → H p = none → Q (.ref p) (upd H p (.lst (ys.map V.str)))
theorem cr_sortedX (hc : X.calm = true) : CallR X (.builtin "sorted") (rSortedX X.prog X.w) := by
  intro pins s σ H vs us Q I r h
  obtain ⟨a, l, rfl, ha, q⟩ := h
  have T : TxR X.prog X.w s.heap a l := (I.hok a _ ha).1
  rw [Vals.ref1 r]
  refine sorted_txr T (I.ok.hd hc) fun s' p out c ys k g o hp hg hS so m len => ?_
  have hn : H p = none := I.hok.fresh hp
  have few : (ys.map V.str).length ≤ sizeLine := by rw [List.length_map, len]; exact fits_of_scanBound T.2.2
  have J : Inv X pins σ (upd H p (.lst (ys.map V.str))) { s with heap := s'.heap, gens := s'.gens, drawn := s'.drawn, toks := s'.toks } :=
    I.call (ch := []) (Un.laid k hp hn) (I.hok.laid k hp ⟨few, out.toList, c, vals_of_strs hS, hg⟩) (by rw [g]; exact I.bare) fun _ z => nomatch z
  have e : s' = { s with heap := s'.heap, gens := s'.gens, drawn := s'.drawn, toks := s'.toks } := by
    rcases s' with ⟨_, _, _, _, _⟩
    cases o
    rfl
  rw [e]
  exact ⟨.ref p, _, J, rfl, q ys p so m len hn⟩
end
end Mf
/-! Operators of own classes (dunder methods that are plain defs), over the hand layer. -/
namespace Mf
open PySem PySem.Spec PyProof.Rows L2

section
variable {X : Cx} {CX : CXT} {k : Nat} {f C a dx : Addr} {fd : FuncData} {ps : List Str} {sp : Sp} {E : XK} {ds : List Value} {dvs : List V} {pins : List (Addr × Obj)} {σ : L2.St} {H : Hp} {s : Shared} {fs : List (Str × V)}

theorem Inv.inst (I : Inv X pins σ H s) (e : H a = some (.ins C dx fs)) : ∃ od, PySem.W.InstAt s.heap a (PySem.W.instObj C dx) C (some od) :=
  let ⟨_, O, _⟩ := ins_get I.hok e
  let ⟨od, i, _⟩ := O.look
  ⟨od, i⟩

/-- a def runs, from anywhere under the body X -/
theorem run_in {A : Around} {Q : VK} {us : List Value} {vs : List V} (F : FnOk X.prog X.w X.K X.mg X.base CX k f fd ps sp) (hr : Room k A) (hb : Binds X.K fd ps ds) (hd : Vals dvs ds) (hx : Passes CX X E)
    (e0 : Env0 X.prog X.w X.K X.mg X.base A X.stack s H) (I : Inv X pins σ H s) (r : Vals vs us) (h : sp (vs ++ dvs) H Q E) : wpAny (model X.prog X.w) A (call (.ref f) us) (EP X pins σ Q) X.xe s := by
  have r2 : Vals (vs ++ dvs) (us ++ ds) := r.append hd
  have hl : (us ++ ds).length = ps.length := by rw [← r2.length]; exact F.len _ _ _ _ h
  refine wpAny_call (codeAny_mono (F.run A X.stack s H ⟨us, []⟩ (us ++ ds) (vs ++ dvs) Q E hr e0 (hb s us I.kIn hl) r2 h) fun r s' hq => ?_)
  rcases r with e | fl
  · exact hx pins σ H s e s' I hq
  · rcases fl with _ | _ | _ | u
    all_goals first | exact False.elim hq | exact I.after hq

/-- what type the other operand has: it isn't below C -/
def NotBelow (K : PySem.W.Frag) (C : Addr) (y : V) (H : Hp) : Prop := ∃ t, TyX K H y t ∧ PySem.W.notFirst K C t = true

/-- x op y by the class's own def -/
def rCmpO (K : PySem.W.Frag) (C : Addr) (sp : Sp) (E : XK) : R2 := fun x y H Q => ∃ a dx fs, x = .ref a ∧ H a = some (.ins C dx fs) ∧ NotBelow K C y H ∧ sp [x, y] H Q E
theorem op_cmpO {op : CmpOp} (m : Meth X.K C (cmpInfo op).2.1 f) (F : FnOk X.prog X.w X.K X.mg X.base CX k f fd ps sp) (hr : Room k X.A) (hb : Binds X.K fd ps []) (hx : Passes CX X E)
    (hop : ∀ a b, compareOp op a b = richCompare op a b := by exact fun _ _ => rfl) : OpR X (compareOp op) (rCmpO X.K C sp E) := by
  intro pins s σ H x y v u Q I rx ry h
  obtain ⟨a, dx, fs, rfl, ha, ⟨t, ty, nb⟩, q⟩ := h
  cases (show v = Value.ref a from rx)
  obtain ⟨od, J⟩ := Inv.inst I ha
  obtain ⟨mm, hF⟩ := I.fr
  obtain ⟨Pk, Z, p, _⟩ := kit_of I ry ty
  rw [hop]
  refine PySem.W.cmp_K (op := op) (tb := t) hr.units0 hF I.ok.mod.kin J (Z.ty _ _ I.kIn p) nb m.at_ m.fn ?_
  refine wpAny_mono (run_in (us := [.ref a, u]) (vs := [.ref a, y]) F hr hb .nil hx I.env0 I (.cons rfl (.cons ry .nil)) (by rw [List.append_nil]; exact q)) (fun z s' e => ?_) fun _ _ e => e
  obtain ⟨z', H', I', rz, qz⟩ := e
  exact SlX.cmpback rz ⟨z', H', I', rz, qz⟩

/-- x != y by the class's own __eq__ -/
def rNeO (K : PySem.W.Frag) (C : Addr) (sp : Sp) (E : XK) : R2 := fun x y H Q => ∃ a dx fs, x = .ref a ∧ H a = some (.ins C dx fs) ∧ NotBelow K C y H ∧ sp [x, y] H (fun v H' => ∃ b, v = .bl b ∧ Q (.bl (!b)) H') E
theorem op_neO (m : Meth X.K C "__eq__" f) (ne : PySem.W.findIn X.K (.ref C) "__ne__" = some (some (.builtin "object.__ne__"))) (mo : PySem.W.mroIn X.K C (.type "object") = some true)
    (F : FnOk X.prog X.w X.K X.mg X.base CX k f fd ps sp) (hr : Room (k + 1) X.A) (hb : Binds X.K fd ps []) (hx : Passes CX X E) : OpR X (compareOp .NotEq) (rNeO X.K C sp E) := by
  intro pins s σ H x y v u Q I rx ry h
  obtain ⟨a, dx, fs, rfl, ha, ⟨t, ty, nb⟩, q⟩ := h
  cases (show v = Value.ref a from rx)
  obtain ⟨od, J⟩ := Inv.inst I ha
  obtain ⟨Pk, Z, p, _⟩ := kit_of I ry ty
  have Lb : PySem.W.Looks (model X.prog X.w) s.heap (typeOf u) t := Z.ty _ _ I.kIn p
  have core : wpAny (model X.prog X.w) X.A (call (.builtin "object.__ne__") [.ref a, u]) (EP X pins σ Q) X.xe s := by
    refine wpAny_call (codeAny_call_builtin PySem.F.cmp_object.ne.plain PySem.F.cmpEntry_ne (PySem.W.check_slot (i := "object.__ne__") (owner := "object") (n := "__ne__") PySem.F.cmpKind_ne PySem.F.cmpSplit_ne (J.type.andThen (PySem.W.looks_mroIn I.kIn mo)) (PySem.F.cmpArgs_ne _ _) ?_))
    unfold Builtin.«object.__ne__»
    refine wpAny_bind (m := slotArgs "__ne__" 1 _) (wpAny_pure ?_)
    refine wpAny_bind (m := cRoomFor _ _) (wpAny_cRoomFor (hr.in1).units0 ?_)
    refine wpAny_bind (m := callSpecialIfBound? (.ref a) (Str.ofString "__eq__") _) (PySem.W.ifBound_K I.kIn J m.at_ m.fn ?_)
    refine wpAny_mono (run_in (us := [.ref a, u]) (vs := [.ref a, y]) F hr.in1 hb .nil hx I.env0.in1 I (.cons rfl (.cons ry .nil)) (by rw [List.append_nil]; exact q)) (fun z s' e => ?_) fun _ _ e => e
    obtain ⟨z', H', I', rz, b, rfl, qz⟩ := e
    cases (show z = Value.bool b from rz)
    exact wpAny_bind (wpAny_truthy_bool (wpAny_pure ⟨.bl (!b), H', I', rfl, qz⟩))
  have one : wpAny (model X.prog X.w) X.A (tryCompare (.ref a) "__ne__" u) (fun r s' => ∃ v, r = some v ∧ EP X pins σ Q v s') X.xe s := by
    unfold tryCompare
    refine wpAny_bind ?_
    simp only [callSpecialIfBound?, bindSpecialIfBound?]
    refine wpAny_holding (wpAny_bind (wpAny_bind (wpAny_bind (J.type.here ((PySem.W.looks_findIn I.kIn ne).here ?_)))))
    simp only [PySem.F.cmp_object.ne.bind]
    have fin : wpAny (model X.prog X.w) X.A (call (.builtin "object.__ne__") ([.ref a] ++ [u]) >>= fun v => pure (some v)) (fun a_1 s' => wpAny (model X.prog X.w) X.A (match a_1 with
        | some Value.notImplemented | none => pure none
        | some v => pure (some v)) (fun r s' => ∃ v, r = some v ∧ EP X pins σ Q v s') X.xe s') X.xe s := by
      refine wpAny_bind (wpAny_mono core (fun z s' e => wpAny_pure ?_) fun _ _ e => e)
      have e2 := e
      obtain ⟨z', H', I', rz, qz⟩ := e2
      have nn : PySem.W.CmpBack (fun z s' => EP X pins σ Q z s') z s' := SlX.cmpback rz e
      cases z <;> first | exact nn.elim | exact wpAny_pure ⟨_, rfl, nn⟩
    refine wpAny_bind (wpAny_askSetting (wpAny_ite ?_))
    split
    · exact wpAny_bind (wpAny_pure (wpAny_pure fin))
    · exact wpAny_tryCatch (wpAny_bind (wpAny_pure (wpAny_pure fin)))
  show wpAny _ _ (richCompare .NotEq (.ref a) u) _ _ s
  unfold richCompare
  simp only [oneThing_ref]
  refine wpAny_holding (wpAny_bind (wpAny_cRoomFor hr.units0 ?_))
  refine wpAny_bind (J.type.here (wpAny_bind (Lb.here ?_)))
  split
  · rename_i h1
    have e : PySem.W.subIn X.K t (.ref C) = some false := by
      rcases Bool.or_eq_true_iff.mp nb with e | e
      · rw [beq_iff_eq.mp e] at h1; simp at h1
      · exact beq_iff_eq.mp e
    refine wpAny_bind ((PySem.W.looks_subIn I.kIn e).here ?_)
    simp only [Bool.false_eq_true, if_false]
    refine wpAny_bind (wpAny_mono one (fun r s' z => ?_) fun _ _ e => e)
    obtain ⟨v, rfl, hq⟩ := z
    exact wpAny_pure hq
  · refine wpAny_bind (wpAny_pure ?_)
    simp only [Bool.false_eq_true, if_false]
    refine wpAny_bind (wpAny_mono one (fun r s' z => ?_) fun _ _ e => e)
    obtain ⟨v, rfl, hq⟩ := z
    exact wpAny_pure hq

/-- x op y, both of the class -/
def rBinO (C : Addr) (sp : Sp) (E : XK) : R2 := fun x y H Q => ∃ a dx fs b dy gs, x = .ref a ∧ y = .ref b ∧ H a = some (.ins C dx fs) ∧ H b = some (.ins C dy gs) ∧ sp [x, y] H Q E
theorem op_binO {op : Operator} (m : Meth X.K C (PySem.dunder op.info.2) f) (sf : PySem.W.selfFirst X.K C = true) (F : FnOk X.prog X.w X.K X.mg X.base CX k f fd ps sp) (hr : Room k X.A) (hb : Binds X.K fd ps []) (hx : Passes CX X E) :
    OpR X (binaryOp op) (rBinO C sp E) := by
  intro pins s σ H x y v u Q I rx ry h
  obtain ⟨a, dx, fs, b, dy, gs, rfl, rfl, ha, hb', q⟩ := h
  cases (show v = Value.ref a from rx)
  cases (show u = Value.ref b from ry)
  obtain ⟨od, J⟩ := Inv.inst I ha
  obtain ⟨oe, J'⟩ := Inv.inst I hb'
  obtain ⟨mm, hF⟩ := I.fr
  refine PySem.W.binop_K hF I.ok.mod.kin J J'.type sf m.at_ m.fn ?_
  refine wpAny_mono (run_in (us := [.ref a, .ref b]) (vs := [.ref a, .ref b]) F hr hb .nil hx I.env0 I (.cons rfl (.cons rfl .nil)) (by rw [List.append_nil]; exact q)) (fun z s' e => ?_) fun _ _ e => e
  obtain ⟨z', H', I', rz, qz⟩ := e
  exact SlX.cmpback rz ⟨z', H', I', rz, qz⟩

/-- y in x, y not in x -/
def rInO (C : Addr) (neg : Bool) (sp : Sp) (E : XK) : R2 := fun y x H Q => ∃ a dx fs, x = .ref a ∧ H a = some (.ins C dx fs) ∧ sp [x, y] H (fun v H' => ∃ b, v = .bl b ∧ Q (.bl (if neg then !b else b)) H') E
theorem op_inO (m : Meth X.K C "__contains__" f) (F : FnOk X.prog X.w X.K X.mg X.base CX k f fd ps sp) (hr : Room k X.A) (hb : Binds X.K fd ps []) (hx : Passes CX X E) : OpR X (compareOp .In) (rInO C false sp E) := by
  intro pins s σ H y x u v Q I ry rx h
  obtain ⟨a, dx, fs, rfl, ha, q⟩ := h
  cases (show v = Value.ref a from rx)
  obtain ⟨od, J⟩ := Inv.inst I ha
  obtain ⟨mm, hF⟩ := I.fr
  refine PySem.W.in_K hF I.ok.mod.kin J m.at_ m.fn ?_
  refine wpAny_mono (run_in (us := [.ref a, u]) (vs := [.ref a, y]) F hr hb .nil hx I.env0 I (.cons rfl (.cons ry .nil)) (by rw [List.append_nil]; exact q)) (fun z s' e => ?_) fun _ _ e => e
  obtain ⟨z', H', I', rz, b, rfl, qz⟩ := e
  cases (show z = Value.bool b from rz)
  exact wpAny_truthy_bool ⟨.bl b, H', I', rfl, qz⟩
theorem op_notInO (m : Meth X.K C "__contains__" f) (F : FnOk X.prog X.w X.K X.mg X.base CX k f fd ps sp) (hr : Room k X.A) (hb : Binds X.K fd ps []) (hx : Passes CX X E) : OpR X (compareOp .NotIn) (rInO C true sp E) := by
  intro pins s σ H y x u v Q I ry rx h
  obtain ⟨a, dx, fs, rfl, ha, q⟩ := h
  cases (show v = Value.ref a from rx)
  obtain ⟨od, J⟩ := Inv.inst I ha
  obtain ⟨mm, hF⟩ := I.fr
  refine PySem.W.notIn_K hF I.ok.mod.kin J m.at_ m.fn ?_
  refine wpAny_mono (run_in (us := [.ref a, u]) (vs := [.ref a, y]) F hr hb .nil hx I.env0 I (.cons rfl (.cons ry .nil)) (by rw [List.append_nil]; exact q)) (fun z s' e => ?_) fun _ _ e => e
  obtain ⟨z', H', I', rz, b, rfl, qz⟩ := e
  cases (show z = Value.bool b from rz)
  exact wpAny_truthy_bool ⟨.bl (!b), H', I', rfl, qz⟩

/-- len(x) -/
def rLenO (C : Addr) (sp : Sp) (E : XK) : List V → Hp → VK → Prop := fun xs H Q => ∃ a dx fs, xs = [.ref a] ∧ H a = some (.ins C dx fs) ∧ sp xs H (fun v H' => ∃ n : Nat, v = .int n ∧ n < 2 ^ 62 ∧ Q v H') E
theorem call_lenO (m : Meth X.K C "__len__" f) (F : FnOk X.prog X.w X.K X.mg X.base CX k f fd ps sp) (hr : Room (k + 1) X.A) (hb : Binds X.K fd ps []) (hx : Passes CX X E) : CallR X (.builtin "len") (rLenO C sp E) := by
  intro pins s σ H xs us Q I r h
  obtain ⟨a, dx, fs, rfl, ha, q⟩ := h
  rw [Vals.ref1 r]
  obtain ⟨od, J⟩ := Inv.inst I ha
  obtain ⟨mm, hF⟩ := I.fr
  refine PySem.W.len_K hF I.ok.mod.kin J m.at_ m.fn ?_
  refine wpAny_mono (run_in (us := [.ref a]) (vs := [.ref a]) F hr.in1 hb .nil hx I.env0.in1 I (.cons rfl .nil) (by rw [List.append_nil]; exact q)) (fun z s' e => ?_) fun _ _ e => e
  obtain ⟨z', H', I', rz, n, rfl, hn, qz⟩ := e
  obtain ⟨t, rfl⟩ := (show ∃ t, z = Value.int n t from rz)
  exact ⟨⟨by omega, by omega⟩, .int n, H', I'.tok _, ⟨_, rfl⟩, qz⟩

/-- x[y] -/
def rGetO (C : Addr) (sp : Sp) (E : XK) : R2 := fun x y H Q => ∃ a dx fs, x = .ref a ∧ H a = some (.ins C dx fs) ∧ sp [x, y] H Q E
theorem pe_getO {o i : Expr} {to ti : TE} {pos : Pos} (m : Meth X.K C "__getitem__" f) (fn : PySem.W.fnIn X.K f = true) (F : FnOk X.prog X.w X.K X.mg X.base CX k f fd ps sp) (hr : Room (k + 1) X.A) (hb : Binds X.K fd ps []) (hx : Passes CX X E) (ho : PE X o to) (hi : PE X i ti)
    (hsl : ∀ x y, subscripted i true x y = runValue (.builtin "lifetime.subscript" ⟨[x, y], []⟩) := by intro _ _; with_unfolding_all rfl) : PE X (.Subscript o i pos) (tOp (rGetO C sp E) to ti) := by
  refine ⟨fun pins s σ H Q I h => ?_⟩
  refine Subscript_ (binT ho hi I h fun v u s2 x y H2 I2 rx ry q => ?_)
  obtain ⟨a, dx, fs, rfl, ha, q⟩ := q
  cases (show v = Value.ref a from rx)
  obtain ⟨od, J⟩ := Inv.inst I2 ha
  obtain ⟨mm, hF⟩ := I2.fr
  refine PySem.W.sub_K hF I2.ok.mod.kin J m.at_ fn m.fn ?_ (hsl _ _)
  exact run_in (us := [.ref a, u]) (vs := [.ref a, y]) F hr.in1 hb .nil hx I2.env0.in1 I2 (.cons rfl (.cons ry .nil)) (by rw [List.append_nil]; exact q)
end
end Mf
/-! Sorted texts: the order, and that a sorted row without repeats is the only one of its members. -/
namespace Mf
open PySem L2
theorem lt_irr : ∀ l : List Nat, Spec.ltCps l l = false
  | [] => rfl
  | a :: r => by
    show (decide (a < a) || (a == a && Spec.ltCps r r)) = false
    rw [lt_irr r]; simp
theorem lt_asym : ∀ l m : List Nat, Spec.ltCps l m = true → Spec.ltCps m l = false
  | [], [], h => rfl
  | [], _ :: _, _ => rfl
  | _ :: _, [], h => by cases h
  | a :: r, b :: t, h => by
    have h : (decide (a < b) || (a == b && Spec.ltCps r t)) = true := h
    show (decide (b < a) || (b == a && Spec.ltCps t r)) = false
    simp only [Bool.or_eq_true, decide_eq_true_eq, Bool.and_eq_true, beq_iff_eq] at h
    simp only [Bool.or_eq_false_iff, decide_eq_false_iff_not, Bool.and_eq_false_iff, beq_eq_false_iff_ne]
    rcases h with h2 | ⟨rfl, h2⟩
    · exact ⟨by omega, .inl (by omega)⟩
    · exact ⟨by omega, .inr (lt_asym r t h2)⟩
theorem lt_tri : ∀ l m : List Nat, Spec.ltCps l m = false → Spec.ltCps m l = false → l = m
  | [], [], _, _ => rfl
  | [], _ :: _, h, _ => by cases h
  | _ :: _, [], _, h => by cases h
  | a :: r, b :: t, h, g => by
    have h : (decide (a < b) || (a == b && Spec.ltCps r t)) = false := h
    have g : (decide (b < a) || (b == a && Spec.ltCps t r)) = false := g
    simp only [Bool.or_eq_false_iff, decide_eq_false_iff_not, Bool.and_eq_false_iff, beq_eq_false_iff_ne] at h g
    obtain rfl : a = b := by omega
    rw [lt_tri r t (h.2.resolve_left fun n => n rfl) (g.2.resolve_left fun n => n rfl)]
theorem lt_trans : ∀ l m n : List Nat, Spec.ltCps l m = true → Spec.ltCps m n = true → Spec.ltCps l n = true
  | [], [], _, h, _ => by cases h
  | [], _ :: _, [], _, h => by cases h
  | [], _ :: _, _ :: _, _, _ => rfl
  | _ :: _, [], _, h, _ => by cases h
  | _ :: _, _ :: _, [], _, h => by cases h
  | a :: r, b :: t, c :: u, h, g => by
    have h : (decide (a < b) || (a == b && Spec.ltCps r t)) = true := h
    have g : (decide (b < c) || (b == c && Spec.ltCps t u)) = true := g
    show (decide (a < c) || (a == c && Spec.ltCps r u)) = true
    simp only [Bool.or_eq_true, decide_eq_true_eq, Bool.and_eq_true, beq_iff_eq] at h g ⊢
    rcases h with h2 | ⟨rfl, h2⟩
    · rcases g with g2 | ⟨rfl, g2⟩
      · left; omega
      · left; exact h2
    · rcases g with g2 | ⟨rfl, g2⟩
      · left; exact g2
      · right; exact ⟨rfl, lt_trans r t u h2 g2⟩
def Lt (x y : Str) : Prop := Spec.ltCps x.cps.toList y.cps.toList = true
theorem Lt.ne {x y : Str} (h : Lt x y) : x ≠ y := fun e => by subst e; unfold Lt at h; rw [lt_irr] at h; cases h
theorem Lt.asymm {x y : Str} (h : Lt x y) : ¬ Lt y x := fun g => by unfold Lt at h g; rw [lt_asym _ _ h] at g; cases g
theorem Lt.trans {x y z : Str} (h : Lt x y) (g : Lt y z) : Lt x z := lt_trans _ _ _ h g
theorem not_lt {x y : Str} (h : Spec.ltCps y.cps.toList x.cps.toList = false) (n : x ≠ y) : Lt x y := by
  unfold Lt
  cases e : Spec.ltCps x.cps.toList y.cps.toList with
  | true => rfl
  | false => exact absurd (tl_inj (lt_tri _ _ e h)) n
/-- in order, each once -/
def Up (l : List Str) : Prop := l.Pairwise Lt
theorem Up.nd {l : List Str} (h : Up l) : l.Nodup := List.Pairwise.imp (fun h => h.ne) h
theorem rising_up : ∀ (l : List Str) (p : Str), PyProof.Rows.risingS p l = true → (p :: l).Nodup → Up (p :: l)
  | [], p, _, _ => List.pairwise_singleton _ _
  | x :: r, p, h, nd => by
    have h : (!Spec.ltCps x.cps.toList p.cps.toList && PyProof.Rows.risingS x r) = true := h
    obtain ⟨h1, h2⟩ := Bool.and_eq_true_iff.mp h
    obtain ⟨n1, n2⟩ := List.nodup_cons.mp nd
    have u := rising_up r x h2 n2
    have px : Lt p x := not_lt (by simpa using h1) fun e => n1 (e ▸ List.mem_cons_self)
    refine List.pairwise_cons.mpr ⟨fun y hy => ?_, u⟩
    rcases List.mem_cons.mp hy with rfl | hy
    · exact px
    · exact px.trans ((List.pairwise_cons.mp u).1 y hy)
theorem up_of {l : List Str} (h : PyProof.Rows.sortedS l = true) (nd : l.Nodup) : Up l := by
  cases l with
  | nil => exact List.Pairwise.nil
  | cons x r => exact rising_up r x h nd
theorem up_one : ∀ {xs ys : List Str}, Up xs → Up ys → (∀ z, z ∈ xs ↔ z ∈ ys) → xs = ys
  | [], [], _, _, _ => rfl
  | [], y :: _, _, _, h => absurd ((h y).mpr List.mem_cons_self) (by simp)
  | x :: _, [], _, _, h => absurd ((h x).mp List.mem_cons_self) (by simp)
  | x :: xs, y :: ys, u, v, h => by
    obtain ⟨u1, u2⟩ := List.pairwise_cons.mp u
    obtain ⟨v1, v2⟩ := List.pairwise_cons.mp v
    have e : x = y := by
      rcases List.mem_cons.mp ((h x).mp List.mem_cons_self) with e | m
      · exact e
      · rcases List.mem_cons.mp ((h y).mpr List.mem_cons_self) with e | m'
        · exact e.symm
        · exact absurd (u1 y m') (v1 x m).asymm
    subst e
    rw [up_one u2 v2 fun z => ?_]
    constructor
    · intro m
      rcases List.mem_cons.mp ((h z).mp (List.mem_cons_of_mem _ m)) with e | q
      · exact absurd e.symm (u1 z m).ne
      · exact q
    · intro m
      rcases List.mem_cons.mp ((h z).mpr (List.mem_cons_of_mem _ m)) with e | q
      · exact absurd e.symm (v1 z m).ne
      · exact q
theorem nodup_le {α : Type} [DecidableEq α] : ∀ {l m : List α}, l.Nodup → l ⊆ m → l.length ≤ m.length
  | [], _, _, _ => Nat.zero_le _
  | x :: l, m, nd, sub => by
    obtain ⟨n1, n2⟩ := List.nodup_cons.mp nd
    have hx : x ∈ m := sub List.mem_cons_self
    have ih := nodup_le (m := m.erase x) n2 fun y hy => (List.mem_erase_of_ne (by rintro rfl; exact n1 hy)).mpr (sub (List.mem_cons_of_mem _ hy))
    rw [List.length_erase_of_mem hx] at ih
    have := List.length_pos_of_mem hx
    rw [List.length_cons]
    omega
theorem nodup_len {α : Type} [DecidableEq α] : ∀ {ys l : List α}, l.Nodup → l ⊆ ys → ys.length = l.length → ys.Nodup
  | [], _, _, _, _ => List.nodup_nil
  | y :: ys, l, nd, sub, e => by
    have hy : y ∈ l := Classical.byContradiction fun n => by
      have q := nodup_le (m := ys) nd fun z hz => (List.mem_cons.mp (sub hz)).resolve_left (by rintro rfl; exact n hz)
      rw [List.length_cons] at e
      omega
    have ny : y ∉ ys := fun m => by
      have q := nodup_le (m := ys) nd fun z hz => by
        rcases List.mem_cons.mp (sub hz) with rfl | h
        · exact m
        · exact h
      rw [List.length_cons] at e
      omega
    refine List.nodup_cons.mpr ⟨ny, nodup_len (l := l.erase y) (nd.erase y) (fun z hz => ?_) ?_⟩
    · obtain ⟨h1, h2⟩ := (nd.mem_erase_iff).mp hz
      exact (List.mem_cons.mp (sub h2)).resolve_left h1
    · rw [List.length_erase_of_mem hy, ← e, List.length_cons]; rfl
theorem sum_len {ys : List Str} {B : Nat} (h : ∀ y ∈ ys, y.length ≤ B) : (ys.map (·.length)).sum ≤ ys.length * B := by
  induction ys with
  | nil => simp
  | cons y ys ih =>
    rw [List.map_cons, List.sum_cons, List.length_cons, Nat.succ_mul]
    have a := h y List.mem_cons_self
    have b := ih fun z hz => h z (List.mem_cons_of_mem _ hz)
    omega
theorem flat_strs (zs : List Str) : (zs.map V.str).all flatV = true := by rw [List.all_map]; exact List.all_eq_true.mpr fun _ _ => rfl

/-! ### data that are compared -/
theorem dpS {K : PySem.W.Frag} {H : Hp} : ∀ zs : List Str, DpAll K H (zs.map V.str) (zs.map PyData.str)
  | [] => .nil
  | z :: zs => .cons (.str z) (dpS zs)
theorem dpB {K : PySem.W.Frag} {H : Hp} : ∀ bs : List Bool, DpAll K H (bs.map V.bl) (bs.map PyData.bool)
  | [] => .nil
  | b :: bs => .cons (.bl b) (dpB bs)
theorem eqvB : ∀ bs cs : List Bool, PyData.eqvAll (bs.map PyData.bool) (cs.map PyData.bool) = decide (bs = cs)
  | [], [] => rfl
  | [], _ :: _ => rfl
  | _ :: _, [] => rfl
  | b :: bs, c :: cs => by
    show ((b == c) && PyData.eqvAll (bs.map PyData.bool) (cs.map PyData.bool)) = _
    rw [eqvB bs cs]
    by_cases h : b = c <;> simp [h]
theorem eqvS : ∀ bs cs : List Str, PyData.eqvAll (bs.map PyData.str) (cs.map PyData.str) = decide (bs = cs)
  | [], [] => rfl
  | [], _ :: _ => rfl
  | _ :: _, [] => rfl
  | b :: bs, c :: cs => by
    show ((b == c) && PyData.eqvAll (bs.map PyData.str) (cs.map PyData.str)) = _
    rw [eqvS bs cs]
    by_cases h : b = c <;> simp [h]
theorem layB : ∀ bs : List Bool, PyData.canLayAll0 (bs.map PyData.bool) = true
  | [] => rfl
  | b :: bs => by show (true && PyData.canLayAll0 (bs.map PyData.bool)) = true; rw [layB bs]; rfl
theorem layS : ∀ zs : List Str, (∀ z ∈ zs, PyData.strOk z = true) → PyData.canLayAll0 (zs.map PyData.str) = true
  | [], _ => rfl
  | z :: zs, h => by
    show (PyData.strOk z && PyData.canLayAll0 (zs.map PyData.str)) = true
    rw [h z List.mem_cons_self, layS zs fun y hy => h y (List.mem_cons_of_mem _ hy)]; rfl
theorem depAll : ∀ {ds : List PyData}, (∀ d ∈ ds, PyData.depth d = 0) → PyData.depthAll ds = 0
  | [], _ => rfl
  | d :: ds, h => by
    show max (PyData.depth d) (PyData.depthAll ds) = 0
    rw [h d List.mem_cons_self, depAll fun y hy => h y (List.mem_cons_of_mem _ hy)]; rfl
theorem shB (bs : List Bool) : SeqAt.shaped (.list (bs.map PyData.bool)) = true := by
  refine Bool.and_eq_true_iff.mpr ⟨layB bs, decide_eq_true ?_⟩
  show PyData.depthAll (bs.map PyData.bool) + 1 ≤ 64
  rw [depAll fun d hd => by obtain ⟨b, _, rfl⟩ := List.mem_map.mp hd; rfl]
  decide
theorem shT {zs : List Str} (h : ∀ z ∈ zs, PyData.strOk z = true) : SeqAt.shaped (.tuple (zs.map PyData.str)) = true := by
  refine Bool.and_eq_true_iff.mpr ⟨layS zs h, decide_eq_true ?_⟩
  show PyData.depthAll (zs.map PyData.str) + 1 ≤ 64
  rw [depAll fun d hd => by obtain ⟨b, _, rfl⟩ := List.mem_map.mp hd; rfl]
  decide
theorem shL {zs : List Str} (h : ∀ z ∈ zs, PyData.strOk z = true) : SeqAt.shaped (.list (zs.map PyData.str)) = true := by
  refine Bool.and_eq_true_iff.mpr ⟨layS zs h, decide_eq_true ?_⟩
  show PyData.depthAll (zs.map PyData.str) + 1 ≤ 64
  rw [depAll fun d hd => by obtain ⟨b, _, rfl⟩ := List.mem_map.mp hd; rfl]
  decide
theorem IsName.ok {z : Str} (h : IsName z) : PyData.strOk z = true := by
  show z.cps.all (fun x => decide (x < 1114112)) = true
  rw [← Array.all_toList, List.all_eq_true]
  intro c hc
  have := (h.2.2 c hc).2
  exact decide_eq_true (by omega)
end Mf
/-! Classes and methods by one fact each; readings of the own operators. -/
namespace Mf
open PySem L2
/-- C(..): the class at C, its __init__'s promise, the defaults that fill up -/
structure CalC (P : Program) (w : World) (K : PySem.W.Frag) (mg : Str → Option Value) (base : Heap) (CX : CXT) (k : Nat) (x : Str) (C : Addr) (ps : List Str) (sp : Sp) (dvs : List V) : Prop where
  ex : ∃ (f : Addr) (fd : FuncData) (ds : List Value), Mk K C f ∧ FnOk P w K mg base CX k f fd ps sp ∧ mg x = some (.ref C) ∧ Binds K fd ps ds ∧ Vals dvs ds
/-- a method -/
structure CalM (P : Program) (w : World) (K : PySem.W.Frag) (mg : Str → Option Value) (base : Heap) (CX : CXT) (k : Nat) (C : Addr) (m : Str) (ps : List Str) (sp : Sp) : Prop where
  ex : ∃ (f : Addr) (fd : FuncData), Meth K C m f ∧ PySem.W.fnIn K f = true ∧ FnOk P w K mg base CX k f fd ps sp ∧ Binds K fd ps []
section
variable {X : Cx} {CX : CXT} {k : Nat} {x m : Str} {C : Addr} {ps : List Str} {sp : Sp} {dvs : List V} {E : XK} {e o : Expr} {es : List Expr} {t : TA} {p pos apos : Pos} {ta to ti : TE}
theorem pe_mkc (c : CalC X.prog X.w X.K X.mg X.base CX k x C ps sp dvs) (hr : Room (k + 1) X.A) (hx : Passes CX X E) (ha : PA X (e :: es) t) (hg : Gl X x := by rfl)
    (hdb : (x == ("__debug__" : Str)) = false := by decide) (he : starEach (e :: es) X.env = (false, eval e X.env) :: starEach es X.env := by rfl) (hpl : (backTo pos (starEach es X.env)).any (·.1) = false := by rfl) :
    PE X (.Call (.Name x p) (e :: es) [] pos) (tMake C sp dvs E t) := by
  obtain ⟨f, fd, ds, M, F, mm, b, v⟩ := c.ex
  exact pe_make M F hr hg mm b v hx ha hdb he hpl
theorem pe_mkc0 (c : CalC X.prog X.w X.K X.mg X.base CX k x C ps sp dvs) (hr : Room (k + 1) X.A) (hx : Passes CX X E) (hg : Gl X x := by rfl) (hdb : (x == ("__debug__" : Str)) = false := by decide) :
    PE X (.Call (.Name x p) [] [] pos) (tMake C sp dvs E tNil) := by
  obtain ⟨f, fd, ds, M, F, mm, b, v⟩ := c.ex
  exact pe_make0 M F hr hg mm b v hx hdb
theorem om_cmp {op : CmpOp} (K : PySem.W.Frag) (c : CalM X.prog X.w X.K X.mg X.base CX k C (cmpInfo op).2.1 ps sp) (hr : Room k X.A) (hx : Passes CX X E) (hop : ∀ a b, compareOp op a b = richCompare op a b := by exact fun _ _ => rfl) (h : X.K = K := by rfl) : OpR X (compareOp op) (rCmpO K C sp E) := by
  obtain ⟨f, fd, M, _, F, b⟩ := c.ex
  exact h ▸ op_cmpO M F hr b hx hop
theorem om_ne (K : PySem.W.Frag) (c : CalM X.prog X.w X.K X.mg X.base CX k C "__eq__" ps sp) (ne : PySem.W.findIn X.K (.ref C) "__ne__" = some (some (.builtin "object.__ne__"))) (mo : PySem.W.mroIn X.K C (.type "object") = some true)
    (hr : Room (k + 1) X.A) (hx : Passes CX X E) (h : X.K = K := by rfl) : OpR X (compareOp .NotEq) (rNeO K C sp E) := by
  obtain ⟨f, fd, M, _, F, b⟩ := c.ex
  exact h ▸ op_neO M ne mo F hr b hx
theorem om_bin {op : Operator} (c : CalM X.prog X.w X.K X.mg X.base CX k C (PySem.dunder op.info.2) ps sp) (sf : PySem.W.selfFirst X.K C = true) (hr : Room k X.A) (hx : Passes CX X E) : OpR X (binaryOp op) (rBinO C sp E) := by
  obtain ⟨f, fd, M, _, F, b⟩ := c.ex
  exact op_binO M sf F hr b hx
theorem om_in (c : CalM X.prog X.w X.K X.mg X.base CX k C "__contains__" ps sp) (hr : Room k X.A) (hx : Passes CX X E) : OpR X (compareOp .In) (rInO C false sp E) := by
  obtain ⟨f, fd, M, _, F, b⟩ := c.ex
  exact op_inO M F hr b hx
theorem om_notIn (c : CalM X.prog X.w X.K X.mg X.base CX k C "__contains__" ps sp) (hr : Room k X.A) (hx : Passes CX X E) : OpR X (compareOp .NotIn) (rInO C true sp E) := by
  obtain ⟨f, fd, M, _, F, b⟩ := c.ex
  exact op_notInO M F hr b hx
theorem om_len (c : CalM X.prog X.w X.K X.mg X.base CX k C "__len__" ps sp) (hr : Room (k + 1) X.A) (hx : Passes CX X E) : CallR X (.builtin "len") (rLenO C sp E) := by
  obtain ⟨f, fd, M, _, F, b⟩ := c.ex
  exact call_lenO M F hr b hx
theorem om_get {i : Expr} (c : CalM X.prog X.w X.K X.mg X.base CX k C "__getitem__" ps sp) (hr : Room (k + 1) X.A) (hx : Passes CX X E) (ho : PE X o to) (hi : PE X i ti)
    (hsl : ∀ x y, subscripted i true x y = runValue (.builtin "lifetime.subscript" ⟨[x, y], []⟩) := by intro _ _; with_unfolding_all rfl) : PE X (.Subscript o i pos) (tOp (rGetO C sp E) to ti) := by
  obtain ⟨f, fd, M, fn, F, b⟩ := c.ex
  exact pe_getO M fn F hr b hx ho hi hsl
theorem om_meth {pl : Sem Bool} (he : PE X o ta) (c : Cls X.K C) (cm : CalM X.prog X.w X.K X.mg X.base CX k C m ps sp) (hr : Room k X.A) (hx : Passes CX X E) (ha : PA X (e :: es) t)
    (hst : starEach (e :: es) X.env = (false, eval e X.env) :: starEach es X.env := by rfl) (hpl : (backTo pos (starEach es X.env)).any (·.1) = false := by rfl)
    (ht : eval (.Call (.Attribute o m apos) (e :: es) [] pos) X.env = (do
      let ov ← eval o X.env
      standAt apos.atName
      let (f, first) ← holding [ov] (getMethod ov m pl)
      callWith pos f first (backTo pos (starEach (e :: es) X.env)) (backToKw pos (keywordEach [] X.env))) := by rfl) :
    PE X (.Call (.Attribute o m apos) (e :: es) [] pos) (tMeth C m sp [] E ta t) := by
  obtain ⟨f, fd, M, fn, F, b⟩ := cm.ex
  exact pe_meth he c M F hr b .nil hx ha hst hpl ht
theorem om_meth0 {pl : Sem Bool} (he : PE X o ta) (c : Cls X.K C) (cm : CalM X.prog X.w X.K X.mg X.base CX k C m ps sp) (hr : Room k X.A) (hx : Passes CX X E)
    (ht : eval (.Call (.Attribute o m apos) [] [] pos) X.env = (do
      let ov ← eval o X.env
      standAt apos.atName
      let (f, first) ← holding [ov] (getMethod ov m pl)
      callWith pos f first (backTo pos (starEach [] X.env)) (backToKw pos (keywordEach [] X.env))) := by rfl) :
    PE X (.Call (.Attribute o m apos) [] [] pos) (tMeth C m sp [] E ta tNil) := by
  obtain ⟨f, fd, M, fn, F, b⟩ := cm.ex
  exact pe_meth0 he c M F hr b .nil hx ht
end
/-- c and b, where b is asked without a change of the heap -/
theorem and_then {c b : Bool} {σ : L2.St} {H : Hp} {tb : TE} {Q : VK} (ht : c = true → ∀ Q' : VK, Q' (.bl b) H → tb σ H Q') (k : Q (.bl (c && b)) H) : if c = true then tb σ H Q else Q (.bl false) H := by
  cases c with
  | true => exact iteT (ht rfl Q (by simpa using k))
  | false => exact iteF k
end Mf
/-! From the head's facts to calls. -/
namespace Mf
open PySem L2
theorem kit_self {K : PySem.W.Frag} {C : Addr} : PySem.W.kitOne K (.ref C) (.ref C) = some true := by unfold PySem.W.kitOne; rw [if_pos (by simp)]
theorem kit_own {K : PySem.W.Frag} {C : Addr} {T : String} {b : Bool} (i : PySem.W.isClsIn K C = true) (t : PySem.W.typeIn K (.ref C) = some (.type "type")) (s : PySem.W.subIn K (.type T) (.ref C) = some b) : PySem.W.kitOne K (.type T) (.ref C) = some b := by
  have i' : (PySem.W.clsIn K C).isSome = true := i
  unfold PySem.W.kitOne PySem.W.kitCls
  rw [if_neg (by simp)]
  show (if ((PySem.W.clsIn K C).isSome && PySem.W.typeIn K (.ref C) == some (.type "type")) = true then PySem.W.subIn K (.type T) (.ref C) else none) = some b
  rw [if_pos (by rw [i', t]; rfl)]
  exact s
theorem notFirst_of {K : PySem.W.Frag} {C : Addr} {T : String} (s : PySem.W.subIn K (.type T) (.ref C) = some false) : PySem.W.notFirst K C (.type T) = true := by
  unfold PySem.W.notFirst
  rw [s]; simp
/-- a def of the text as it stands behind the top -/
structure DefF (K : PySem.W.Frag) (x : Str) (st : Stmt) (f : Addr) : Prop where
  ex : ∃ (oc : Value) (od : Option Addr) (sl : Array (Option Value)) (kV dc pm : Value) (an : Option Addr) (cd ct : Value), PySem.W.nsIn K mainGlobals x = some (some (.ref f)) ∧
    K.lookup f = some ⟨oc, od, .func (PySem.W.fnOf x x (defArgs st) (defBody st) (defScope st) .none kV dc pm an cd ct), sl⟩ ∧ PySem.W.codeIn K cd x = true ∧ PySem.W.keepIn K (.ref f) = true
/-- a method of the class at C -/
structure MetF (K : PySem.W.Frag) (C : Addr) (m qual : Str) (st : Stmt) (f : Addr) : Prop where
  ex : ∃ (oc : Value) (od : Option Addr) (sl : Array (Option Value)) (kV dc pm : Value) (an : Option Addr) (cd ct : Value), PySem.W.findIn K (.ref C) m = some (some (.ref f)) ∧
    K.lookup f = some ⟨oc, od, .func (PySem.W.fnOf m qual (defArgs st) (defBody st) (defScope st) .none kV dc pm an cd ct), sl⟩ ∧ PySem.W.codeIn K cd qual = true ∧ PySem.W.keepIn K (.ref f) = true ∧ PySem.W.isFn K (.ref f) = true ∧ PySem.W.fnIn K f = true
section
variable {P : Program} {w : World} {K : PySem.W.Frag} {mg : Str → Option Value} {base h : Heap} {CX : CXT} {k : Nat} {x m qual : Str} {st : Stmt} {f C : Addr} {ps : List Str} {sp : Sp}
abbrev BindP (x qual : Str) (st : Stmt) (ps : List Str) : Prop := ∀ (kV doc pm : Value) (an : Option Addr) (cdv ct : Value) (us : List Value), us.length = ps.length → bindArgs (PySem.W.fnOf x qual (defArgs st) (defBody st) (defScope st) .none kV doc pm an cdv ct) ⟨us, []⟩ = pure (ps.zip us)
theorem DefF.cal (D : DefF K x st f) (X : K.In h) (G : h.Ns mainGlobals mg) (hb : BindP x x st ps) (ok : ∀ fd, Fun K x x st f fd → FnOk P w K mg base CX k f fd ps sp) : Cal P w K mg base CX k x ps sp := by
  obtain ⟨oc, od, sl, kV, dc, pm, an, cd, ct, a, l, c, q⟩ := D.ex
  have F := fun_mk (st := st) l c q
  exact ⟨⟨f, _, ok _ F, PySem.W.mg_of X G a, q, F.binds hb⟩⟩
theorem MetF.cal (D : MetF K C m qual st f) (hb : BindP m qual st ps) (ok : ∀ fd, Fun K m qual st f fd → FnOk P w K mg base CX k f fd ps sp) : CalM P w K mg base CX k C m ps sp := by
  obtain ⟨oc, od, sl, kV, dc, pm, an, cd, ct, a, l, c, q, i, n⟩ := D.ex
  have F := fun_mk (st := st) l c q
  exact ⟨⟨f, _, ⟨a, i, q⟩, n, ok _ F, F.binds hb⟩⟩
/-- the law itself -/
theorem DefF.law {fa : Addr} (D : DefF K "law" st f) (X : K.In h) (G : h.Ns mainGlobals mg) (hfa : mg "law" = some (.ref fa)) (hb : ∀ (kV doc pm : Value) (an : Option Addr) (cdv ct : Value) (s : Shared) (v : Value), BindsTo s (PySem.W.fnOf "law" "law" (defArgs st) (defBody st) (defScope st) .none kV doc pm an cdv ct) ⟨[v], []⟩ [("_law_script", v)])
    (ok : ∀ base : Heap, K.In base → base.Ns mainGlobals mg → ∀ fd, Fun K "law" "law" st f fd → FnOk P w K mg base CX0 k f fd ["_law_script"] sp) :
    ∃ fd : FuncData, (∀ (s : Shared) (v : Value), BindsTo s fd ⟨[v], []⟩ [("_law_script", v)]) ∧ ∀ base : Heap, K.In base → base.Ns mainGlobals mg → FnOk P w K mg base CX0 k fa fd ["_law_script"] sp := by
  obtain ⟨oc, od, sl, kV, dc, pm, an, cd, ct, a, l, c, q⟩ := D.ex
  have e := hfa.symm.trans (PySem.W.mg_of X G a)
  cases e
  exact ⟨_, hb kV dc pm an cd ct, fun base b1 b2 => ok base b1 b2 _ (fun_mk (st := st) l c q)⟩
/-- what a law takes and gives -/
def spLaw (K : PySem.W.Frag) : Sp := fun vs H Q _ => ∃ (a : Addr) (ns : List Int), vs = [.ref a] ∧ SqL K H a (ns.map V.int) ∧ ns.length ≤ 63 ∧ ∀ H', Q (.bl true) H'
end
theorem walk {n : Nat} {l : PySem.W.OpenLaw} {q : Program} {loose : List Str} {XP : (Str → Option Value) → Heap → Prop} {YP : World → Heap → Prop} {d : DefRec} {K : Params → PySem.W.Frag} (hn : l.most = some 63) (hdf : d.params.defaults = [])
    (hr : Room n callerA)
    (hY : ∀ (w : World) (h : Heap), YP w h → (K w.params).In h)
    (F : ∀ (w : World) (mg : Str → Option Value) (fa : Addr) (h : Heap), (K w.params).In h → h.Ns mainGlobals mg → mg d.name = some (.ref fa) →
      ∃ fd : FuncData, (∀ (s : Shared) (u : Value), BindsTo s fd ⟨[u], []⟩ [("_law_script", u)]) ∧ ∀ base : Heap, (K w.params).In base → base.Ns mainGlobals mg → FnOk l.prog w (K w.params) mg base CX0 n fa fd ["_law_script"] (spLaw (K w.params))) :
    PySem.W.WalkO q loose XP YP l.row.toRowW d [] (fun f vs => PySem.call f vs) :=
  L2.walk_of (n := 63) (k := n) (x := "_law_script") (CX := fun _ => CX0) (sp := fun w => spLaw (K w.params)) hn (by decide) hdf hr hY F (fun _ _ a ns hl _ hS => ⟨a, ns, rfl, hS, hl, fun _ => rfl⟩) fun _ _ _ _ _ z => z
end Mf
/-! Counting loops that begin at another number. -/
namespace Mf
open PySem L2

/-- what such a loop yields; G i H x: the i-th thing is x -/
def ItN (k₀ : Int) (go : Nat → Hp → Prop) (stop : Nat → Hp → Prop) (is : Nat → Hp → V → Prop) : It :=
  { go := go, stop := stop, yld := fun i H v H' => ∃ T x, v = .ref T ∧ H T = none ∧ H' = upd H T (.tup [.int (k₀ + i), x]) ∧ is i H x }

/-- the turns, over any source that draws -/
theorem turn_from {P : Program} {w : World} {K : W.Frag} {elts : List PySem.Expr} {kk : Nat} {tpos : Pos} (k₀ : Int) (e it : Addr)
    {go stop : Nat → Hp → Prop} {is : Nat → Hp → V → Prop} {SI : Nat → Heap → Prop}
    (obj : ∀ i h, SI i h → ∃ o, h.get? it = some o ∧ ∀ v : Option Value, o.data ≠ .cell v)
    (keep : ∀ i h h', SI i h → (∀ o, h.get? it = some o → h'.get? it = some o) → SI i h')
    (src : ∀ (X : Cx), X.prog = P → X.w = w → X.K = K → X.calm = true → ∀ (i : Nat) (pins : List (Addr × Obj)) (s : Shared) (σ : St) (H : Hp),
      L2.Inv X pins σ H s → (∀ b ∈ [e, it], FpOk X pins H b) → (∃ old, IsEnum s.heap e it (k₀ + i) old) → SI i s.heap → e ≠ it → (go i H ∨ stop i H) →
      ∃ (n : Nat) (fp : List Addr) (S : Nat → Heap → Prop) (Q : Nat → Value → Prop), Draws P w (Around.in1 X.A) it fp n Q S ∧ S i s.heap ∧ e ∉ fp ∧
        (go i H → i < n) ∧ (stop i H → i = n) ∧ (∀ h, S (i + 1) h → SI (i + 1) h) ∧ ∀ v, Q i v → go i H → ∃ x, RelV x v ∧ is i H x) :
    Turn P w K (.Tuple elts kk tpos) (ItN k₀ go stop is) [e, it] e fun i h => (∃ old, IsEnum h e it (k₀ + i) old) ∧ SI i h ∧ e ≠ it := by
  have mE : e ∈ [e, it] := List.mem_cons_self
  have mI : it ∈ [e, it] := List.mem_cons_of_mem _ List.mem_cons_self
  refine ⟨mE, ?_, ?_, ?_, ?_, ?_⟩
  · rintro i h ⟨⟨old, he⟩, hi, ne⟩ b hb
    simp only [List.mem_cons, List.not_mem_nil, or_false] at hb
    rcases hb with rfl | rfl
    · exact ⟨_, he, fun v q => nomatch q⟩
    · exact obj i h hi
  · rintro i h h' ⟨⟨old, he⟩, hi, ne⟩ k
    exact ⟨⟨old, k e mE _ he⟩, keep i h h' hi (k it mI), ne⟩
  · rintro X hP hw hK hc i pins s σ H E I hf ⟨⟨old, he⟩, hi, ne⟩ hg
    obtain ⟨n, fp, S, Q, D, s0, nf, lt, -, fw, rel⟩ := src X hP hw hK hc i pins s σ H I hf ⟨old, he⟩ hi ne (.inl hg)
    refine wpAny_pyNext_enum_itemC D he s0 (lt hg) ne nf fun x h' tk qx ho hS hT hsz hk => ?_
    refine ⟨_, rfl, wpAny_letOwnedTupleGo_enum ho fun h'' he' sb => ?_⟩
    obtain ⟨y, ry, iy⟩ := rel x qx hg
    have hel := Heap.lt_size he
    have hil : it < s.heap.objs.size := by obtain ⟨o, q, _⟩ := obj i _ hi; exact Heap.lt_size q
    have hT2 := (sb.right s.heap.objs.size (Nat.ne_of_gt hel)).trans hT
    have new : ObjOk X.prog X.w (upd H s.heap.objs.size (.tup [.int (k₀ + i), y])) h'' s.heap.objs.size (.tup [.int (k₀ + i), y]) :=
      ⟨(by show 2 ≤ sizeLine; decide), [.int (k₀ + i) tk, x], .cons ⟨tk, rfl⟩ (.cons ry .nil), _, hT2, rfl, 0, rfl⟩
    have I1 := I.turnedNew (t' := tk + 1) (fun b ob hb q => (sb.right b fun z => hb (z ▸ mE)).trans (hk b ob (fun z => hb (z ▸ mE)) (fun z => hb (z ▸ mI)) q)) hf (Nat.le_refl _) new
    refine ⟨.ref s.heap.objs.size, _, I1, rfl, ⟨_, y, rfl, I.hok.fresh (Nat.le_refl _), rfl, iy⟩, ⟨⟨x, ?_⟩, ?_, ne⟩, ?_⟩
    · have e1 : k₀ + ((i + 1 : Nat) : Int) = k₀ + i + 1 := by omega
      rw [e1]; exact he'
    · exact keep (i + 1) h' h'' (fw _ hS) fun o q => (sb.right it (Ne.symm ne)).trans q
    · intro b hb
      have hb' : b < s.heap.objs.size := by
        simp only [List.mem_cons, List.not_mem_nil, or_false] at hb
        rcases hb with rfl | rfl <;> assumption
      rw [upd_ne (Nat.ne_of_lt hb')]
      exact (hf b hb).1
  · rintro X hP hw hK hc i pins s σ H E I hf ⟨⟨old, he⟩, hi, ne⟩ hg
    obtain ⟨n, fp, S, Q, D, s0, nf, -, eq, -, -⟩ := src X hP hw hK hc i pins s σ H I hf ⟨old, he⟩ hi ne (.inr hg)
    obtain ⟨f0, f1, f2, f3, f4, f5⟩ := hf it mI
    have hin := eq hg
    subst hin
    exact wpAny_pyNext_enum_endD D he s0 fun h' eb => ⟨rfl, I.turned (fun b o hb q => eb b o hb q) f0 f1 f3 f4 f5⟩
  · rintro A i s Q E ⟨⟨old, he⟩, _⟩ h
    exact wpAny_pyIter_enum he h
end Mf
namespace Mf
open PySem L2
theorem callType_kw {M : Model} {A : Around} {E : Value → Shared → Prop} {s : Shared} {env : Env} {pos : Pos} {T : String} {e : Expr} {rest : List Expr} {kws : List Keyword} {Q : Value → Shared → Prop}
    (h : wpAny M A (spliced (backTo pos (starEach (e :: rest) env))) (fun vs s₁ => wpAny M A (evalAll ((backToKw pos (keywordEach kws env)).map (·.2)))
      (fun ks s₂ => wpAny M A (call (.type T) vs (((backToKw pos (keywordEach kws env)).filterMap (·.1)).zip ks)) Q E s₂) E s₁) E s)
    (h0 : backTo pos (starEach (e :: rest) env) = (false, eval e env) :: backTo pos (starEach rest env))
    (h1 : (backTo pos (starEach (e :: rest) env)).any (·.1) = false) (h2 : (backToKw pos (keywordEach kws env)).all (fun x => x.1.isSome) = true)
    (h3 : (backToKw pos (keywordEach kws env)).any (fun x => x.1.isNone) = false) :
    wpAny M A (callWith pos (.type T) [] (backTo pos (starEach (e :: rest) env)) (backToKw pos (keywordEach kws env))) Q E s := by
  rw [h0] at h h1 ⊢
  unfold callWith
  refine wpAny_bind (wpAny_holding (evalArgs_kw h2 (wpAny_mono h ?_ fun _ _ q => q)))
  intro vs s1 h
  refine wpAny_mono h ?_ fun _ _ q => q
  intro ks s2 h
  rw [h1, h3]
  refine wpAny_bind (wpAny_standAt ?_)
  refine wpAny_bind (wpAny_pure ?_)
  refine wpAny_bind (wpAny_mono h ?_ fun _ _ q => q)
  intro v s3 q
  exact wpAny_bind (wpAny_holding (wpAny_point (wpAny_pure q)))

/-- enumerate(.., start=k₀) over a list or a tuple -/
def iEnumS (K : W.Frag) (k₀ : Int) (te : TA) : TI := fun σ H R => te σ H fun vs H1 => ∃ (a : Addr) (xs : List V), vs = [.ref a] ∧
  ((SqL K H1 a xs ∧ R (ItN k₀ (fun i H => ∃ xs x, SqL K H a xs ∧ xs[i]? = some x) (fun i H => ∃ xs, SqL K H a xs ∧ xs.length = i) fun i H x => ∀ xs, SqL K H a xs → xs[i]? = some x) H1) ∨
   (SqT K H1 a xs ∧ R (ItN k₀ (fun i H => ∃ xs x, SqT K H a xs ∧ xs[i]? = some x) (fun i H => ∃ xs, SqT K H a xs ∧ xs.length = i) fun i H x => ∀ xs, SqT K H a xs → xs[i]? = some x) H1))
theorem back_get {xs : List V} {us : List Value} (r : Vals xs us) {i : Nat} {u : Value} (h : us[i]? = some u) : ∃ x, RelV x u ∧ xs[i]? = some x := by
  have hi : i < us.length := by
    rcases Nat.lt_or_ge i us.length with q | q
    · exact q
    · rw [List.getElem?_eq_none q] at h; cases h
  rw [← r.length] at hi
  obtain ⟨u', hu, ru⟩ := Vals.get r (List.getElem?_eq_getElem hi)
  rw [h] at hu
  cases hu
  exact ⟨_, ru, List.getElem?_eq_getElem hi⟩
theorem turn_fromL {P : Program} {w : World} {K : W.Frag} {elts : List Expr} {kk : Nat} {tpos : Pos} (k₀ : Int) (e it a : Addr) :
    Turn P w K (.Tuple elts kk tpos) (ItN k₀ (fun i H => ∃ xs x, SqL K H a xs ∧ xs[i]? = some x) (fun i H => ∃ xs, SqL K H a xs ∧ xs.length = i) fun i H x => ∀ xs, SqL K H a xs → xs[i]? = some x) [e, it] e
      fun i h => (∃ old, IsEnum h e it (k₀ + i) old) ∧ Heap.IsListIter h it a i ∧ e ≠ it := by
  refine turn_from k₀ e it ?_ ?_ ?_
  · rintro i h ⟨o, ho, hc, hd⟩
    exact ⟨o, ho, fun v q => by rw [hd] at q; cases q⟩
  · intro i h h' q k
    exact q.at fun o z => k o z
  · rintro X rfl rfl rfl hc i pins s σ H I hf ⟨old, he⟩ hi ne hg
    have key : ∀ xs, SqL X.K H a xs → ∃ (n : Nat) (fp : List Addr) (S : Nat → Heap → Prop) (Q : Nat → Value → Prop), Draws X.prog X.w (Around.in1 X.A) it fp n Q S ∧ S i s.heap ∧ e ∉ fp ∧
        n = xs.length ∧ (∀ h, S (i + 1) h → Heap.IsListIter h it a (i + 1)) ∧ ∀ v, Q i v → ∃ x, RelV x v ∧ xs[i]? = some x := by
      intro xs hq
      obtain ⟨its, rv, p, hz⟩ := I.list hq
      have pl := p.isList
      have n1 : a ≠ it := fun q => by
        obtain ⟨o, ho, hc, _⟩ := pl
        obtain ⟨o', ho', hc', _⟩ := hi
        rw [q, ho'] at ho; cases ho; rw [hc'] at hc; injection hc with hc; exact absurd hc (by decide)
      have n2 : a ≠ e := fun q => by
        obtain ⟨o, ho, hc, _⟩ := pl
        have he' : s.heap.get? e = _ := he
        rw [q, he'] at ho; cases ho; injection hc with hc; exact absurd hc (by decide)
      refine ⟨_, _, _, _, Draws.list (show (Around.in1 X.A).handled = none from I.ok.hd hc) it a n1 its.toArray, ⟨hi, pl⟩, ?_, ?_, fun h q => q.1, ?_⟩
      · intro q
        simp only [List.mem_cons, List.not_mem_nil, or_false] at q
        rcases q with q | q
        · exact ne q
        · exact n2 q.symm
      · rw [List.size_toArray, rv.length]
      · intro v hv
        have hv : its[i]? = some v := by rw [← List.getElem?_toArray]; exact hv
        exact back_get rv hv
    rcases hg with ⟨xs, x, hq, hx⟩ | ⟨xs, hq, hx⟩
    · obtain ⟨n, fp, S, Q, D, s0, nf, hn, fw, rel⟩ := key xs hq
      refine ⟨n, fp, S, Q, D, s0, nf, fun _ => ?_, ?_, fw, fun v qv _ => ?_⟩
      · rw [hn]
        rcases Nat.lt_or_ge i xs.length with q | q
        · exact q
        · rw [List.getElem?_eq_none q] at hx; cases hx
      · rintro ⟨ys, hy, rfl⟩
        rw [hn, I.list_inj hq hy]
      · obtain ⟨x', rx, hx'⟩ := rel v qv
        exact ⟨x', rx, fun ys hy => by rw [I.list_inj hy hq]; exact hx'⟩
    · obtain ⟨n, fp, S, Q, D, s0, nf, hn, fw, rel⟩ := key xs hq
      refine ⟨n, fp, S, Q, D, s0, nf, ?_, fun _ => by rw [hn, hx], fw, fun v qv _ => ?_⟩
      · rintro ⟨ys, y, hy, hyi⟩
        rw [I.list_inj hy hq, List.getElem?_eq_none (by omega)] at hyi; cases hyi
      · obtain ⟨x', rx, hx'⟩ := rel v qv
        exact ⟨x', rx, fun ys hy => by rw [I.list_inj hy hq]; exact hx'⟩
theorem isTuple_of {h : Heap} {a : Addr} {its : Array Value} (p : PyProof.Rows.IsTup h a its) : Heap.IsTuple h a its := p
theorem turn_fromT {P : Program} {w : World} {K : W.Frag} {elts : List Expr} {kk : Nat} {tpos : Pos} (k₀ : Int) (e it a : Addr) :
    Turn P w K (.Tuple elts kk tpos) (ItN k₀ (fun i H => ∃ xs x, SqT K H a xs ∧ xs[i]? = some x) (fun i H => ∃ xs, SqT K H a xs ∧ xs.length = i) fun i H x => ∀ xs, SqT K H a xs → xs[i]? = some x) [e, it] e
      fun i h => (∃ old, IsEnum h e it (k₀ + i) old) ∧ Heap.IsTupleIter h it a i ∧ e ≠ it := by
  refine turn_from k₀ e it ?_ ?_ ?_
  · rintro i h ⟨o, ho, hc, hd⟩
    exact ⟨o, ho, fun v q => by rw [hd] at q; cases q⟩
  · intro i h h' q k
    exact q.at fun o z => k o z
  · rintro X rfl rfl rfl hc i pins s σ H I hf ⟨old, he⟩ hi ne hg
    have key : ∀ xs, SqT X.K H a xs → ∃ (n : Nat) (fp : List Addr) (S : Nat → Heap → Prop) (Q : Nat → Value → Prop), Draws X.prog X.w (Around.in1 X.A) it fp n Q S ∧ S i s.heap ∧ e ∉ fp ∧
        n = xs.length ∧ (∀ h, S (i + 1) h → Heap.IsTupleIter h it a (i + 1)) ∧ ∀ v, Q i v → ∃ x, RelV x v ∧ xs[i]? = some x := by
      intro xs hq
      obtain ⟨its, rv, p, hz⟩ := I.tuple hq
      have pl := isTuple_of p
      have n1 : a ≠ it := fun q => by
        obtain ⟨o, ho, hc, _⟩ := pl
        obtain ⟨o', ho', hc', _⟩ := hi
        rw [q, ho'] at ho; cases ho; rw [hc'] at hc; injection hc with hc; exact absurd hc (by decide)
      have n2 : a ≠ e := fun q => by
        obtain ⟨o, ho, hc, _⟩ := pl
        have he' : s.heap.get? e = _ := he
        rw [q, he'] at ho; cases ho; injection hc with hc; exact absurd hc (by decide)
      refine ⟨_, _, _, _, Draws.tuple (show (Around.in1 X.A).handled = none from I.ok.hd hc) it a n1 its.toArray, ⟨hi, pl⟩, ?_, ?_, fun h q => q.1, ?_⟩
      · intro q
        simp only [List.mem_cons, List.not_mem_nil, or_false] at q
        rcases q with q | q
        · exact ne q
        · exact n2 q.symm
      · rw [List.size_toArray, rv.length]
      · intro v hv
        have hv : its[i]? = some v := by rw [← List.getElem?_toArray]; exact hv
        exact back_get rv hv
    rcases hg with ⟨xs, x, hq, hx⟩ | ⟨xs, hq, hx⟩
    · obtain ⟨n, fp, S, Q, D, s0, nf, hn, fw, rel⟩ := key xs hq
      refine ⟨n, fp, S, Q, D, s0, nf, fun _ => ?_, ?_, fw, fun v qv _ => ?_⟩
      · rw [hn]
        rcases Nat.lt_or_ge i xs.length with q | q
        · exact q
        · rw [List.getElem?_eq_none q] at hx; cases hx
      · rintro ⟨ys, hy, rfl⟩
        rw [hn, I.tuple_inj hq hy]
      · obtain ⟨x', rx, hx'⟩ := rel v qv
        exact ⟨x', rx, fun ys hy => by rw [I.tuple_inj hy hq]; exact hx'⟩
    · obtain ⟨n, fp, S, Q, D, s0, nf, hn, fw, rel⟩ := key xs hq
      refine ⟨n, fp, S, Q, D, s0, nf, ?_, fun _ => by rw [hn, hx], fw, fun v qv _ => ?_⟩
      · rintro ⟨ys, y, hy, hyi⟩
        rw [I.tuple_inj hy hq, List.getElem?_eq_none (by omega)] at hyi; cases hyi
      · obtain ⟨x', rx, hx'⟩ := rel v qv
        exact ⟨x', rx, fun ys hy => by rw [I.tuple_inj hy hq]; exact hx'⟩
theorem pi_enumS {X : Cx} {e : Expr} {ta : TA} {p pos tpos kp cq : Pos} {cp : Nat} {elts : List Expr} {kk : Nat} {k₀ : Int} (hg : Gl X "enumerate") (hm : X.mg "enumerate" = none) (ha : PA X [e] ta)
    (b0 : -2 ^ 63 ≤ k₀) (b1 : k₀ < 2 ^ 63)
    (h0 : backTo pos (starEach [e] X.env) = (false, eval e X.env) :: backTo pos (starEach [] X.env) := by rfl)
    (h1 : (backTo pos (starEach [e] X.env)).any (·.1) = false := by rfl) :
    PI X (.Tuple elts kk tpos) (.Call (.Name "enumerate" p) [e] [⟨some "start", .Constant (.int k₀) cp cq, kp⟩] pos) (iEnumS X.K k₀ ta) := by
  refine ⟨fun pins s σ H R I h => wpAny_Call_Name_kw (ld_blt I hg hm PyProof.Rows.boot_enumerate (callType_kw (thn (ha.run pos pins s σ H _ I h) ?_) h0 h1 rfl rfl))⟩
  rintro us s1 ⟨vs, H1, I1, r1, q1⟩
  have pk : PK X [⟨some "start", .Constant (.int k₀) cp cq, kp⟩] (tCons (tC (.int k₀)) tNil) := pk_cons pe_int pk_nil
  refine thn (pk.run pos pins s1 σ H1 (fun zs H' => zs = [.int k₀] ∧ H' = H1) I1 ⟨rfl, rfl⟩) ?_
  rintro ks s2 ⟨zs, H2, I2, r2, rfl, rfl⟩
  match ks, r2 with
  | [_], .cons ⟨t, ht⟩ .nil =>
    subst ht
    obtain ⟨a, xs, rfl, q1⟩ := q1
    match us, r1 with
    | [_], .cons ra .nil =>
      have ra : _ = Value.ref a := ra
      subst ra
      rcases q1 with ⟨hq, q⟩ | ⟨hq, q⟩
      · obtain ⟨its, rv, p', hz⟩ := I2.list hq
        refine enum_begins_start (begins_list a its.toArray) p'.isList b0 b1 fun h' he ho hsz hk => ?_
        refine wpAny_pyIter_enum he ?_
        have I3 := I2.kept (t' := s2.toks) hk
        refine ⟨_, [s2.heap.objs.size + 1, s2.heap.objs.size], _, _, H2, rfl, I3, turn_fromL k₀ _ _ a, ⟨⟨_, by simpa using he⟩, ⟨_, ho, rfl, rfl⟩, Nat.succ_ne_self _⟩, ?_, q⟩
        intro b hb
        simp only [List.mem_cons, List.not_mem_nil, or_false] at hb
        rcases hb with rfl | rfl
        · exact I2.fpOk (Nat.le_succ _) (I2.hok.fresh (Nat.le_succ _))
        · exact I2.fpOk (Nat.le_refl _) (I2.hok.fresh (Nat.le_refl _))
      · obtain ⟨its, rv, p', hz⟩ := I2.tuple hq
        refine enum_begins_start (begins_tuple a its.toArray) (isTuple_of p') b0 b1 fun h' he ho hsz hk => ?_
        refine wpAny_pyIter_enum he ?_
        have I3 := I2.kept (t' := s2.toks) hk
        refine ⟨_, [s2.heap.objs.size + 1, s2.heap.objs.size], _, _, H2, rfl, I3, turn_fromT k₀ _ _ a, ⟨⟨_, by simpa using he⟩, ⟨_, ho, rfl, rfl⟩, Nat.succ_ne_self _⟩, ?_, q⟩
        intro b hb
        simp only [List.mem_cons, List.not_mem_nil, or_false] at hb
        rcases hb with rfl | rfl
        · exact I2.fpOk (Nat.le_succ _) (I2.hok.fresh (Nat.le_succ _))
        · exact I2.fpOk (Nat.le_refl _) (I2.hok.fresh (Nat.le_refl _))
theorem walk_enumSL {K : W.Frag} {k₀ : Int} {a : Addr} {xs : List V} :
    Walk (ItN k₀ (fun i H => ∃ xs x, SqL K H a xs ∧ xs[i]? = some x) (fun i H => ∃ xs, SqL K H a xs ∧ xs.length = i) fun i H x => ∀ xs, SqL K H a xs → xs[i]? = some x) xs.length (fun H => SqL K H a xs)
      (YPair (fun i => some (.int (k₀ + i))) fun i => xs[i]?) where
  goes := fun i H hi h => ⟨xs, xs[i], h, List.getElem?_eq_getElem hi⟩
  stops := fun H h => ⟨xs, h, rfl⟩
  yields := by
    rintro i H x H' hi h ⟨T, y, rfl, hT, rfl, hy⟩
    exact ⟨T, _, y, rfl, hT, rfl, rfl, hy xs h⟩
theorem walk_enumST {K : W.Frag} {k₀ : Int} {a : Addr} {xs : List V} :
    Walk (ItN k₀ (fun i H => ∃ xs x, SqT K H a xs ∧ xs[i]? = some x) (fun i H => ∃ xs, SqT K H a xs ∧ xs.length = i) fun i H x => ∀ xs, SqT K H a xs → xs[i]? = some x) xs.length (fun H => SqT K H a xs)
      (YPair (fun i => some (.int (k₀ + i))) fun i => xs[i]?) where
  goes := fun i H hi h => ⟨xs, xs[i], h, List.getElem?_eq_getElem hi⟩
  stops := fun H h => ⟨xs, h, rfl⟩
  yields := by
    rintro i H x H' hi h ⟨T, y, rfl, hT, rfl, hy⟩
    exact ⟨T, _, y, rfl, hT, rfl, rfl, hy xs h⟩
end Mf
namespace Mf
open PySem L2
theorem next_val {prog : Program} {w : World} {A : Around} {E : Value → Shared → Prop} {s : Shared} {it d : Addr} {i ep : Nat} {es : Array DictEntry} {Q : Value → Shared → Prop}
    (hi : Heap.IsValIter s.heap it d i es.size ep) (hd : Heap.DictRaw s.heap d es ep) (hlt : i < es.size)
    (h : ∀ h' : Heap, Heap.IsValIter h' it d (i + 1) es.size ep → Heap.SameBut it s.heap h' → Q es[i].val { s with heap := h' }) :
    wpAny (model prog w) A (Builtin.SmallTypes.nextOf (.ref it)) Q E s := by
  unfold Builtin.SmallTypes.nextOf
  refine wpAny_bind (wpAny_callSpecial?_slot hi.typeIs F.slot_dict_valueiterator_next ?_)
  refine wpAny_call_entry F.slot_dict_valueiterator_next hi.typeIs F.entry_dict_valueiterator_next ?_ (F.args_dict_valueiterator_next_1 _)
  unfold Builtin.«dict_valueiterator.__next__»
  have ty := hi.typeIs
  obtain ⟨o, ho, hc, hdat⟩ := hi
  obtain ⟨od, hod, -, hodd⟩ := hd
  refine wpAny_bind (wpAny_of_eq (a := .ref it) rfl ?_)
  refine wpAny_bind ?_
  refine wpAny_bind (wpAny_bind (wpAny_typeNameOfWhole_valiter ty (wpAny_pure ?_)))
  refine wpAny_bind (wpAny_fieldsOf ho hdat ?_)
  have ow : (if Builtin.Dict_items.ownsTuple "dict_valueiterator" = true then 2 else 0) = 0 := by decide +kernel
  rw [ow]
  refine wpAny_ite_false (by rfl) ?_
  refine wpAny_bind (wpAny_of_eq (a := d) rfl ?_)
  refine wpAny_bind (wpAny_dictEntries hod hodd ?_)
  refine wpAny_ite_false (by simp) ?_
  refine wpAny_bind (wpAny_of_eq (a := d) rfl ?_)
  refine wpAny_bind (wpAny_dictEpoch hod hodd ?_)
  refine wpAny_ite_false (by simp) ?_
  refine wpAny_pure ?_
  have e2 : (if ((i : Nat) : Int) < 0 then none else es[((i : Nat) : Int).toNat]?) = some es[i] := by
    rw [if_neg (by omega)]
    show es[i]? = _
    rw [Array.getElem?_eq_getElem hlt]
  dsimp only
  rw [e2]
  dsimp only
  refine wpAny_bind (wpAny_bind (wpAny_typeNameOfWhole_valiter ty (wpAny_pure ?_)))
  refine wpAny_bind (wpAny_isOneOf_valiter ty ?_)
  rw [ow]
  refine wpAny_bind (wpAny_setField ho hdat (by show 1 < 4; decide) ?_)
  rw [if_neg (by decide +kernel)]
  have sb := Heap.SameBut.update s.heap it (Obj.mapFields fun x => x.setIfInBounds (0 + 1) (rawInt ((i : Int) + 1)))
  have hn : Heap.IsValIter (s.heap.update it (Obj.mapFields fun x => x.setIfInBounds (0 + 1) (rawInt ((i : Int) + 1)))) it d (i + 1) es.size ep := by
    have dm := Obj.data_mapFields hdat fun x => x.setIfInBounds (0 + 1) (rawInt ((i : Int) + 1))
    refine ⟨_, Heap.get?_update_self _ ho (Obj.isFreed_of_fields dm), ?_, ?_⟩
    · rw [Obj.cls_mapFields]; exact hc
    · rw [dm]
      simp [rawInt]
  generalize s.heap.update it (Obj.mapFields fun x => x.setIfInBounds (0 + 1) (rawInt ((i : Int) + 1))) = h2 at sb hn ⊢
  have ty2 : Shared.TypeIs { s with heap := h2 } (.ref it) "dict_valueiterator" := hn.typeIs
  refine wpAny_bind (wpAny_holding (wpAny_bind (wpAny_isOneOf_valiter ty2 ?_)))
  refine wpAny_ite_false (by decide +kernel) ?_
  refine wpAny_bind (wpAny_isOneOf_valiter ty2 ?_)
  refine wpAny_ite_true (by decide +kernel) ?_
  refine wpAny_pure ?_
  refine wpAny_pure ⟨_, rfl, ?_⟩
  exact wpAny_pure (h h2 hn sb)
theorem next_val_end {prog : Program} {w : World} {A : Around} {E : Value → Shared → Prop} {s : Shared} {it d : Addr} {ep : Nat} {es : Array DictEntry} {Q : Value → Shared → Prop}
    (hh : A.handled = none) (hi : Heap.IsValIter s.heap it d es.size es.size ep) (hd : Heap.DictRaw s.heap d es ep)
    (h : ∀ (h' : Heap) (e : Addr), Heap.ExtBut it s.heap h' → (∃ o, h'.get? e = some o ∧ o.cls = .type "StopIteration") → E (.ref e) { s with heap := h' }) :
    wpAny (model prog w) A (Builtin.SmallTypes.nextOf (.ref it)) Q E s := by
  unfold Builtin.SmallTypes.nextOf
  refine wpAny_bind (wpAny_callSpecial?_slot hi.typeIs F.slot_dict_valueiterator_next ?_)
  refine wpAny_call_entry F.slot_dict_valueiterator_next hi.typeIs F.entry_dict_valueiterator_next ?_ (F.args_dict_valueiterator_next_1 _)
  unfold Builtin.«dict_valueiterator.__next__»
  have ty := hi.typeIs
  obtain ⟨o, ho, hc, hdat⟩ := hi
  obtain ⟨od, hod, -, hodd⟩ := hd
  refine wpAny_bind (wpAny_of_eq (a := .ref it) rfl ?_)
  refine wpAny_bind ?_
  refine wpAny_bind (wpAny_bind (wpAny_typeNameOfWhole_valiter ty (wpAny_pure ?_)))
  refine wpAny_bind (wpAny_fieldsOf ho hdat ?_)
  have ow : (if Builtin.Dict_items.ownsTuple "dict_valueiterator" = true then 2 else 0) = 0 := by decide +kernel
  rw [ow]
  refine wpAny_ite_false (by rfl) ?_
  refine wpAny_bind (wpAny_of_eq (a := d) rfl ?_)
  refine wpAny_bind (wpAny_dictEntries hod hodd ?_)
  refine wpAny_ite_false (by simp) ?_
  refine wpAny_bind (wpAny_of_eq (a := d) rfl ?_)
  refine wpAny_bind (wpAny_dictEpoch hod hodd ?_)
  refine wpAny_ite_false (by simp) ?_
  refine wpAny_pure ?_
  have e2 : (if ((es.size : Nat) : Int) < 0 then none else es[((es.size : Nat) : Int).toNat]?) = none := by
    rw [if_neg (by omega)]
    show es[es.size]? = _
    exact Array.getElem?_eq_none (Nat.le_refl _)
  dsimp only
  rw [e2]
  dsimp only
  refine wpAny_bind (wpAny_bind (wpAny_typeNameOfWhole_valiter ty (wpAny_pure ?_)))
  rw [ow]
  refine wpAny_bind (wpAny_setField ho hdat (by show 0 < 4; decide) ?_)
  have sb := Heap.SameBut.update s.heap it (Obj.mapFields fun x => x.setIfInBounds 0 Value.none)
  generalize s.heap.update it (Obj.mapFields fun x => x.setIfInBounds 0 Value.none) = h2 at sb ⊢
  unfold newExc newTuple
  refine wpAny_bind (wpAny_bind (wpAny_newObj_type ?_ (by show 0 ≤ sizeLine; decide)))
  refine wpAny_bind (wpAny_of_eq (a := .none) rfl ?_)
  refine wpAny_newObj_type ?_ (sizeOk_excFields _ _ _ _ _ _ _ _)
  refine wpAny_raiseNew_none (show (Around.in1 A).handled = none from hh) ?_
  exact h _ _ ((sb.extBut.push _).push _) ⟨_, Heap.get?_push_size _ rfl, rfl⟩
theorem draws_val {prog : Program} {w : World} {A : Around} (hh : A.handled = none) (it d : Addr) (ne : d ≠ it) (es : Array DictEntry) (ep : Nat) :
    Draws prog w A it [it, d] es.size (fun i v => ∃ e, es[i]? = some e ∧ v = e.val) fun i h => Heap.IsValIter h it d i es.size ep ∧ Heap.DictRaw h d es ep where
  live := fun i h q => let ⟨o, ho, _⟩ := q.1; ⟨o, ho⟩
  frame := fun i h h' q k => ⟨q.1.at fun o z => k it (by simp) o z, let ⟨o, ho, r⟩ := q.2; ⟨o, k d (by simp) o ho, r⟩⟩
  item := fun i s Q E hi q f => next_val q.1 q.2 hi fun h' x sb => f _ h' s.toks ⟨_, Array.getElem?_eq_getElem hi, rfl⟩
    ⟨x, let ⟨o, ho, r⟩ := q.2; ⟨o, (sb.right d ne).trans ho, r⟩⟩ sb
  done := fun s Q E q f => next_val_end hh q.1 q.2 fun h' e a b => f h' e a b
end Mf
namespace Mf
open PySem L2
abbrev ItV (k₀ : Int) (d : Addr) (o : Obj) (kvs : List (Key × V)) : It :=
  ItN k₀ (fun i H => H d = some (.frz o (.dK kvs)) ∧ i < kvs.length) (fun i H => H d = some (.frz o (.dK kvs)) ∧ kvs.length = i) fun i _ x => ∃ k, kvs[i]? = some (k, x)
theorem pairs_val {prog : Program} {w : World} {knd : KeyKind prog w Key} {es : List DictEntry} {vs : List (Key × Value)} (h : Pairs knd es vs) :
    es.length = vs.length ∧ ∀ (i : Nat) (e : DictEntry), es[i]? = some e → ∃ p, vs[i]? = some p ∧ e.val = p.2 := by
  induction h with
  | nil => exact ⟨rfl, fun i e h => by simp at h⟩
  | cons a b r ih =>
    refine ⟨by rw [List.length_cons, List.length_cons, ih.1], fun i e h => ?_⟩
    match i, h with
    | 0, h =>
      cases h
      exact ⟨_, rfl, b⟩
    | i + 1, h => exact ih.2 i e h
theorem kv_back {kvs : List (Key × V)} {vs : List (Key × Value)} (r : KV kvs vs) {i : Nat} {p : Key × Value} (h : vs[i]? = some p) : ∃ x, RelV x p.2 ∧ ∃ k, kvs[i]? = some (k, x) := by
  have l := Paired.length r
  have hi : i < kvs.length := by
    rcases Nat.lt_or_ge i kvs.length with q | q
    · exact q
    · rw [List.getElem?_eq_none (by omega)] at h; cases h
  obtain ⟨u, hu, ru⟩ := kv_get r (k := kvs[i].1) (v := kvs[i].2) (List.getElem?_eq_getElem hi)
  rw [h] at hu
  cases hu
  exact ⟨_, ru, _, List.getElem?_eq_getElem hi⟩
theorem turn_fromV {P : Program} {w : World} {K : W.Frag} {elts : List Expr} {kk : Nat} {tpos : Pos} (k₀ : Int) (e it d : Addr) {o : Obj} {es : Array DictEntry} {ep : Nat} {kvs : List (Key × V)} (hod : o.data = .dict es ep) :
    Turn P w K (.Tuple elts kk tpos) (ItV k₀ d o kvs) [e, it] e
      fun i h => (∃ old, IsEnum h e it (k₀ + i) old) ∧ Heap.IsValIter h it d i kvs.length ep ∧ e ≠ it := by
  refine turn_from k₀ e it ?_ ?_ ?_
  · rintro i h ⟨o, ho, hc, hd⟩
    exact ⟨o, ho, fun v q => by rw [hd] at q; cases q⟩
  · intro i h h' q k
    exact q.at fun o z => k o z
  · rintro X rfl rfl rfl hc i pins s σ H I hf ⟨old, he⟩ hi ne hg
    have hH : H d = some (.frz o (.dK kvs)) := hg.elim (·.1) (·.1)
    obtain ⟨hs, hgd, hx, es', ep', vs, hdt, hsz, kv, hm⟩ := I.frzK hH
    obtain ⟨rfl, rfl⟩ := dict_ep hod hdt
    obtain ⟨o2, es2, g1, g2, g3, g4, g5, g6⟩ := hm
    rw [hgd] at g1
    cases g1
    obtain ⟨q1, _⟩ := dict_ep hdt g3
    subst q1
    have pv := pairs_val g5
    have n1 : d ≠ it := fun q => by
      obtain ⟨o', ho', hc', hd'⟩ := hi
      rw [← q, hgd] at ho'; cases ho'
      rw [hdt] at hd'; cases hd'
    have n2 : d ≠ e := fun q => by
      have he' : s.heap.get? e = _ := he
      rw [← q, hgd] at he'; cases he'
      cases hdt
    rw [← hsz] at hi
    refine ⟨_, _, _, _, draws_val (show (Around.in1 X.A).handled = none from I.ok.hd hc) it d n1 es2 ep', ⟨hi, ⟨_, hgd, hx, hdt⟩⟩, ?_, ?_, ?_, fun h q => by rw [hsz] at q; exact q.1, ?_⟩
    · intro q
      simp only [List.mem_cons, List.not_mem_nil, or_false] at q
      rcases q with q | q
      · exact ne q
      · exact n2 q.symm
    · rintro ⟨_, q⟩; rw [hsz]; exact q
    · rintro ⟨_, q⟩; rw [hsz]; exact q.symm
    · rintro v ⟨en, hen, rfl⟩ _
      obtain ⟨p, hp, ev⟩ := pv.2 i en (by rw [Array.getElem?_toList]; exact hen)
      rw [ev]
      exact kv_back kv hp
theorem begins_values (v d : Addr) (es : Array DictEntry) (ep : Nat) :
    Begins (.ref v) ⟨.type "dict_valueiterator", none, .fields #[.ref d, .int 0 0, .int (es.size : Nat) 0, .int (ep : Nat) 0], #[]⟩ (fun h => Heap.IsValuesView h v d ∧ Heap.DictRaw h d es ep) where
  iter := fun prog w A E s Q hq q => wpAny_pyIter_values_raw hq.1 hq.2 q
  keeps := by
    rintro h h' ⟨⟨o, a, b, c⟩, o2, g1, g2⟩ k
    exact ⟨⟨o, k _ _ a, b, c⟩, o2, k _ _ g1, g2⟩
  free := rfl
def iEnumV (k₀ : Int) (td : TE) : TI := fun σ H R => td σ H fun x H1 => ∃ d o kvs, x = .ref d ∧ H1 d = some (.frz o (.dK kvs)) ∧ R (ItV k₀ d o kvs) H1
theorem pi_enumV {X : Cx} {e : Expr} {td : TE} {p pos cpos apos tpos kp cq : Pos} {cp : Nat} {elts : List Expr} {kk : Nat} {k₀ : Int} (hg : Gl X "enumerate") (hm : X.mg "enumerate" = none) (he : PE X e td)
    (b0 : -2 ^ 63 ≤ k₀) (b1 : k₀ < 2 ^ 63)
    (hbase : attributeBase e "values" X.env (eval e X.env) = eval e X.env := by rfl) (hline : (apos.endLine == cpos.line) = true := by rfl) :
    PI X (.Tuple elts kk tpos) (.Call (.Name "enumerate" p) [.Call (.Attribute e "values" apos) [] [] cpos] [⟨some "start", .Constant (.int k₀) cp cq, kp⟩] pos) (iEnumV k₀ td) := by
  refine ⟨fun pins s σ H R I h => wpAny_Call_Name_kw (ld_blt I hg hm PyProof.Rows.boot_enumerate (callType_kw ?_ rfl rfl rfl rfl))⟩
  refine Calls.spliced_cons ?_
  refine wpAny_Call_method hbase rfl hline F.plainAttrs_dict F.slot_dict_values F.type_dict_values (thn (he.run pins s σ H _ I h) ?_)
  rintro u s1 ⟨x, H1, I1, rx, d, o, kvs, rfl, hd, q⟩
  have ex : u = .ref d := rx
  subst ex
  obtain ⟨hs, hgd, hx, es, ep, vs, hdt, hsz, kv, hm⟩ := I1.frzK hd
  have hl := Paired.length kv
  refine ⟨hm.dictOf.typeIs, hm.dictOf.mapOf.noDict, ?_⟩
  refine method_meetsIn F.slot_dict_values F.entry_dict_values rfl (evalArgs_none ?_)
  refine ⟨rfl, hm.dictOf.typeIs, F.args_dict_values_1 _, _, meets_dict_values (mixKind X.prog X.w) d hs, ⟨vs, hm.dictOf⟩, ?_⟩
  show wpAny (model X.prog X.w) X.A (spliced []) _ _ _
  refine Calls.spliced_nil ?_
  have I2 := I1.kept (t' := s1.toks) fun b ob q => Heap.get?_push_of_some ⟨.type "dict_values", none, .fields #[.ref d], #[]⟩ q
  refine wpAny_evalAll_cons (wpAny_bind (wpAny_Constant_int (wpAny_bind (wpAny_standAt (wpAny_pure (wpAny_evalAll_nil ?_))))))
  have vw : Heap.IsValuesView (s1.heap.push ⟨.type "dict_values", none, .fields #[.ref d], #[]⟩) s1.heap.objs.size d := ⟨_, Heap.get?_push_size _ rfl, rfl, rfl⟩
  refine enum_begins_start (begins_values s1.heap.objs.size d es ep) ⟨vw, ⟨_, Heap.get?_push_of_some _ hgd, hx, hdt⟩⟩ b0 b1 fun h' he ho hsz2 hk => ?_
  refine wpAny_pyIter_enum he ?_
  have I3 := I2.kept (t' := s1.toks + 1) hk
  refine ⟨_, [(s1.heap.push ⟨.type "dict_values", none, .fields #[.ref d], #[]⟩).objs.size + 1, (s1.heap.push ⟨.type "dict_values", none, .fields #[.ref d], #[]⟩).objs.size], _, _, H1, rfl, I3, turn_fromV k₀ _ _ d hdt, ⟨⟨_, by simpa using he⟩, ⟨_, ho, rfl, by rw [← hsz]; rfl⟩, Nat.succ_ne_self _⟩, ?_, q⟩
  intro b hb
  simp only [List.mem_cons, List.not_mem_nil, or_false] at hb
  rcases hb with rfl | rfl
  · exact I2.fpOk (Nat.le_succ _) (I2.hok.fresh (Nat.le_succ _))
  · exact I2.fpOk (Nat.le_refl _) (I2.hok.fresh (Nat.le_refl _))
theorem walk_enumV {k₀ : Int} {d : Addr} {o : Obj} {kvs : List (Key × V)} :
    Walk (ItV k₀ d o kvs) kvs.length (fun H => H d = some (.frz o (.dK kvs))) (fun i H v H' => ∃ T x k, v = .ref T ∧ H T = none ∧ H' = upd H T (.tup [.int (k₀ + i), x]) ∧ kvs[i]? = some (k, x)) where
  goes := fun i H hi h => ⟨h, hi⟩
  stops := fun H h => ⟨h, rfl⟩
  yields := by
    rintro i H x H' hi h ⟨T, y, rfl, hT, rfl, k, hy⟩
    exact ⟨T, y, k, rfl, hT, rfl, hy⟩
end Mf
/-! Any walk; data of steps and procedures compared; lists of a heap that keep their kind. -/
namespace Mf
open PySem L2
theorem it_any {J : It} {n : Nat} {G : Hp → Prop} {Y : Nat → Hp → V → Hp → Prop} (w : Walk J n G Y) {B : (Hp → Prop) → V → Hp → Prop} {Qd : Hp → Prop} {H1 : Hp} (Pv : Nat → Hp → Prop) (h0 : Pv 0 H1) (hG : ∀ i H, i ≤ n → Pv i H → G H)
    (hs : ∀ i x H H', i < n → Pv i H → Y i H x H' → B (Pv (i + 1)) x H') (hd : ∀ H, Pv n H → Qd H) :
    ∃ W : Nat → Nat → Hp → Prop, (∃ m, W 0 m H1) ∧ ∀ i m H, W i m H → (J.stop i H ∧ Qd H) ∨ (J.go i H ∧ ∃ Nx : Hp → Prop, (∀ H', Nx H' → ∃ m', m' < m ∧ W (i + 1) m' H') ∧ ∀ x H', J.yld i H x H' → B Nx x H') := by
  refine ⟨fun i m H => m = n - i ∧ i ≤ n ∧ Pv i H, ⟨n, by simp, Nat.zero_le _, h0⟩, ?_⟩
  rintro i m H ⟨rfl, hi, p⟩
  have q := hG i H hi p
  by_cases hlt : i < n
  · exact .inr ⟨w.goes i H hlt q, Pv (i + 1), fun H' p' => ⟨n - (i + 1), by omega, rfl, hlt, p'⟩, fun x H' y => hs i x H H' hlt p (w.yields i H x H' hlt q y)⟩
  · have e : i = n := by omega
    subst e
    exact .inl ⟨w.stops H q, hd H p⟩
section
variable (K : PySem.W.Frag) {X : Cx}
theorem piL {tg l : Expr} {tl : TE} (hl : PE X l tl) (h : X.K = K := by rfl) : PI X tg l (iList K tl) := h ▸ pi_list hl
theorem piT {tg l : Expr} {tl : TE} (hl : PE X l tl) (h : X.K = K := by rfl) : PI X tg l (iTup K tl) := h ▸ pi_tup hl
end

/-! ### data -/
theorem eqvMap {α : Type} [DecidableEq α] {f : α → PyData} (h : ∀ x y, PyData.eqv (f x) (f y) = decide (x = y)) : ∀ xs ys : List α, PyData.eqvAll (xs.map f) (ys.map f) = decide (xs = ys)
  | [], [] => rfl
  | [], _ :: _ => rfl
  | _ :: _, [] => rfl
  | x :: xs, y :: ys => by
    show (PyData.eqv (f x) (f y) && PyData.eqvAll (xs.map f) (ys.map f)) = _
    rw [h, eqvMap h xs ys]
    by_cases e : x = y <;> simp [e]
/-- data that can be laid, of depth at most k -/
def Sh (k : Nat) (d : PyData) : Prop := d.canLay0 = true ∧ PyData.depth d ≤ k
theorem Sh.up {k m : Nat} {d : PyData} (h : Sh k d) (l : k ≤ m) : Sh m d := ⟨h.1, Nat.le_trans h.2 l⟩
theorem Sh.all {k : Nat} : ∀ {ds : List PyData}, (∀ d ∈ ds, Sh k d) → PyData.canLayAll0 ds = true ∧ PyData.depthAll ds ≤ k
  | [], _ => ⟨rfl, Nat.zero_le _⟩
  | d :: ds, h => by
    obtain ⟨a, b⟩ := Sh.all (ds := ds) fun y hy => h y (List.mem_cons_of_mem _ hy)
    obtain ⟨a', b'⟩ := h d List.mem_cons_self
    refine ⟨?_, ?_⟩
    · show (d.canLay0 && PyData.canLayAll0 ds) = true
      rw [a, a']; rfl
    · show max (PyData.depth d) (PyData.depthAll ds) ≤ k
      omega
theorem Sh.list {k : Nat} {ds : List PyData} (h : ∀ d ∈ ds, Sh k d) : Sh (k + 1) (.list ds) := ⟨(Sh.all h).1, Nat.succ_le_succ (Sh.all h).2⟩
theorem Sh.tuple {k : Nat} {ds : List PyData} (h : ∀ d ∈ ds, Sh k d) : Sh (k + 1) (.tuple ds) := ⟨(Sh.all h).1, Nat.succ_le_succ (Sh.all h).2⟩
theorem Sh.listM {α : Type} {k : Nat} {xs : List α} {f : α → PyData} (h : ∀ x ∈ xs, Sh k (f x)) : Sh (k + 1) (.list (xs.map f)) := .list fun d hd => by obtain ⟨x, hx, rfl⟩ := List.mem_map.mp hd; exact h x hx
theorem Sh.tupleM {α : Type} {k : Nat} {xs : List α} {f : α → PyData} (h : ∀ x ∈ xs, Sh k (f x)) : Sh (k + 1) (.tuple (xs.map f)) := .tuple fun d hd => by obtain ⟨x, hx, rfl⟩ := List.mem_map.mp hd; exact h x hx
theorem Sh.str {z : Str} (h : PyData.strOk z = true) : Sh 0 (.str z) := ⟨h, Nat.le_refl _⟩
theorem Sh.int (i : Int) : Sh 0 (.int i) := ⟨rfl, Nat.le_refl _⟩
theorem Sh.sh {k : Nat} {d : PyData} (h : Sh k d) (l : k ≤ 64 := by decide) : SeqAt.shaped d = true := Bool.and_eq_true_iff.mpr ⟨h.1, decide_eq_true (Nat.le_trans h.2 l)⟩
theorem dpMap {K : PySem.W.Frag} {H : Hp} {α : Type} {g : α → V} {f : α → PyData} : ∀ {xs : List α}, (∀ x ∈ xs, Dp K H (g x) (f x)) → DpAll K H (xs.map g) (xs.map f)
  | [], _ => .nil
  | x :: xs, h => .cons (h x List.mem_cons_self) (dpMap fun y hy => h y (List.mem_cons_of_mem _ hy))
theorem dpPair {K : PySem.W.Frag} {H : Hp} {α β : Type} {R : α → β → Prop} {g : α → V} {f : β → PyData} {as : List α} {bs : List β} (p : Paired R as bs) (h : ∀ a b, R a b → Dp K H (g a) (f b)) : DpAll K H (as.map g) (bs.map f) := by
  induction p with
  | nil => exact .nil
  | cons a _ ih => exact .cons (h _ _ a) ih
/-! ### steps and procedures as data -/
abbrev Step := Str × Str
abbrev Pc := Str × List Step
def stD (s : Step) : PyData := .tuple [.str s.1, .str s.2]
def bdL (ss : List Step) : PyData := .list (ss.map stD)
def bdT (ss : List Step) : PyData := .tuple (ss.map stD)
def pcL (x : Pc) : PyData := .tuple [.str x.1, bdL x.2]
theorem eqv_str (x y : Str) : PyData.eqv (.str x) (.str y) = decide (x = y) := by
  show (x == y) = _
  by_cases e : x = y <;> simp [e]
theorem eqv_st (x y : Step) : PyData.eqv (stD x) (stD y) = decide (x = y) := by
  obtain ⟨a, b⟩ := x
  obtain ⟨c, d⟩ := y
  show (PyData.eqv (.str a) (.str c) && (PyData.eqv (.str b) (.str d) && true)) = _
  rw [eqv_str, eqv_str]
  by_cases e : a = c <;> by_cases f : b = d <;> simp [e, f]
theorem eqv_bdL (x y : List Step) : PyData.eqv (bdL x) (bdL y) = decide (x = y) := eqvMap eqv_st x y
theorem eqv_bdT (x y : List Step) : PyData.eqv (bdT x) (bdT y) = decide (x = y) := eqvMap eqv_st x y
theorem eqv_pcL (x y : Pc) : PyData.eqv (pcL x) (pcL y) = decide (x = y) := by
  obtain ⟨a, b⟩ := x
  obtain ⟨c, d⟩ := y
  show (PyData.eqv (.str a) (.str c) && (PyData.eqv (bdL b) (bdL d) && true)) = _
  rw [eqv_str, eqv_bdL]
  by_cases e : a = c <;> by_cases f : b = d <;> simp [e, f]
def StOk (s : Step) : Prop := PyData.strOk s.1 = true ∧ PyData.strOk s.2 = true
theorem sh_st {s : Step} (h : StOk s) : Sh 1 (stD s) := .tuple fun d hd => by
  simp only [List.mem_cons, List.not_mem_nil, or_false] at hd
  rcases hd with rfl | rfl
  · exact .str h.1
  · exact .str h.2
theorem sh_bdL {ss : List Step} (h : ∀ s ∈ ss, StOk s) : Sh 2 (bdL ss) := .listM fun s hs => sh_st (h s hs)
theorem sh_bdT {ss : List Step} (h : ∀ s ∈ ss, StOk s) : Sh 2 (bdT ss) := .tupleM fun s hs => sh_st (h s hs)
theorem sh_pcL {x : Pc} (h : PyData.strOk x.1 = true) (h2 : ∀ s ∈ x.2, StOk s) : Sh 3 (pcL x) := .tuple fun d hd => by
  simp only [List.mem_cons, List.not_mem_nil, or_false] at hd
  rcases hd with rfl | rfl
  · exact (Sh.str h).up (by decide)
  · exact sh_bdL h2

/-! ### all but lists stays -/
def NoL (o : HO) : Prop := ∀ xs, o ≠ .lst xs
def SameN (H H' : Hp) : Prop := ∀ b o, NoL o → H b = some o → H' b = some o
theorem SameN.refl {H : Hp} : SameN H H := fun _ _ _ h => h
theorem SameN.of {H H' : Hp} (x : Same H H') : SameN H H' := fun b o _ h => x b o h
theorem SameN.trans {H H1 H2 : Hp} (x : SameN H H1) (y : SameN H1 H2) : SameN H H2 := fun b o n h => y b o n (x b o n h)
theorem SameN.put {H H1 : Hp} {p : Addr} {xs : List V} {o : HO} (x : SameN H H1) (h : H1 p = some (.lst xs)) : SameN H (upd H1 p o) := fun b u n e => by
  have q := x b u n e
  rw [upd_ne (fun z => by rw [z, h] at q; exact n xs (Option.some.inj q).symm)]
  exact q
theorem noL_tup {xs : List V} : NoL (.tup xs) := fun _ h => nomatch h
theorem noL_dK {k : List (Key × V)} : NoL (.dK k) := fun _ h => nomatch h
theorem noL_ins {C d : Addr} {f : List (Str × V)} : NoL (.ins C d f) := fun _ h => nomatch h
theorem SameN.tup {K : PySem.W.Frag} {t : Addr} {H H' : Hp} {xs : List V} (x : SameN H H') (h : SqT K H t xs) : SqT K H' t xs := by
  rcases h with (h | ⟨o, h⟩) | h
  · exact .inl (.inl (x _ _ noL_tup h))
  · exact .inl (.inr ⟨o, x _ _ (fun _ h => nomatch h) h⟩)
  · exact .inr h
/-- all but a, and but lists, stays -/
theorem refs_ne {H : Hp} {a x : Addr} {n : Nat} {ts : List Addr} (S : Src H a n) (h : H x = some (.lst (ts.map V.ref))) : x ≠ a := fun e => by
  obtain ⟨g, s, c, q, _⟩ := S
  rw [e, q] at h
  cases ts with
  | nil => simp at h
  | cons t ts => simp at h
theorem strs_ne {H : Hp} {a x : Addr} {n : Nat} {zs : List Str} (S : Src H a n) (h : H x = some (.lst (zs.map V.str))) : x ≠ a := fun e => by
  obtain ⟨g, s, c, q, _⟩ := S
  rw [e, q] at h
  cases zs with
  | nil => simp at h
  | cons t ts => simp at h
theorem noL_ne {H : Hp} {a x : Addr} {n : Nat} {o : HO} (S : Src H a n) (k : NoL o) (h : H x = some o) : x ≠ a := fun e => by
  obtain ⟨g, s, c, q, _⟩ := S
  rw [e, q] at h
  exact k _ (Option.some.inj h).symm
theorem Kp.noL {H H' : Hp} {a : Addr} {n : Nat} (x : Kp a H H') (S : Src H a n) : SameN H H' := fun b o k h => x b o (noL_ne S k h) h
end Mf
/-! tuple(d) of a dict; == of dicts whose values are data. -/
namespace Mf
open PySem PySem.Spec PyProof.Rows L2

section
variable {prog : Program} {w : World} {A : Around} {E : Value → Shared → Prop} {s : Shared} {T : String} {r d : Addr} {n : Nat} {P : Nat → Value → Prop} {OK : Heap → Prop}
theorem collect_src {Q : List Value → Shared → Prop} (K : PySem.W.KdlSrc prog w T r d n P OK) (hh : A.handled = none) (hok : OK s.heap) (hn : n ≤ sizeLine)
    (hQ : ∀ (h' : Heap) (tk : Nat) (acc : Array Value), (∀ b o, s.heap.get? b = some o → h'.get? b = some o) → ItemsOf P acc n → Q acc.toList { s with heap := h', toks := tk }) :
    wpAny (model prog w) A (collect (.ref r)) Q E s := by
  unfold collect
  refine wpAny_bind (wpAny_runValue (codeAny_builtin F.entry_proto_collect ?_))
  rw [Around.under_plainId F.plain_proto_collect _]
  show wpAny _ A.in1 (newList [] >>= fun l => again (.builtin "list.__iadd__" ⟨[l, .ref r], []⟩)) _ _ s
  refine wpAny_bind (wpAny_newObj_type ?_)
  refine wpAny_pure ⟨plainId_quiet F.plain_list_iadd _, codeAny_builtin F.entry_list_iadd ?_⟩
  rw [Around.under_plainId F.plain_list_iadd _]
  show wpAny _ A.in1 (Builtin.List.listExtendWith (.ref s.heap.objs.size) (.ref r) (.ref s.heap.objs.size)) _ _ _
  have hS : (s.heap.push { cls := .type "list", data := .seq ([] : List Value).toArray }).get? s.heap.objs.size = some { cls := .type "list", data := .seq #[] 0 } := Heap.get?_push_size _ rfl
  have hlt := K.there _ hok
  refine wpAny_mono (PySem.W.kdl_extend (A := A) (R := fun rr s' => rr = .ok (.ret (.ref s.heap.objs.size)) ∧ ∃ (h' : Heap) (tk : Nat) (acc : Array Value) (c' : Nat), s' = { s with heap := h', toks := tk } ∧
      (∀ b o, s.heap.get? b = some o → h'.get? b = some o) ∧ h'.get? s.heap.objs.size = some { cls := .type "list", dict := none, data := .seq acc c', slots := #[] } ∧ ItemsOf P acc n)
    (s := { s with heap := s.heap.push { cls := .type "list", data := .seq ([] : List Value).toArray } }) K hh (K.keep _ _ hok fun b _ o e => Heap.get?_push_of_some _ e) _ (Nat.ne_of_gt hlt.1) (Nat.ne_of_gt hlt.2) _ 0 hS
    (fun h' tk acc c' hk e hi => ⟨rfl, h', tk, acc, c', rfl, fun b o q => hk b o (Nat.ne_of_lt (Heap.lt_size q)) (Heap.get?_push_of_some _ q), e, hi⟩) hn) (fun fin s' h => ?_) (fun e s' h => ?_)
  · cases fin with
    | done f =>
      obtain ⟨e, h', tk, acc, c', rfl, hk, hS', hi⟩ := h
      cases e
      show wpAny _ A (load s.heap.objs.size >>= _) _ _ _
      exact wpAny_bind (wpAny_load hS' (wpAny_pure (hQ h' tk acc hk hi)))
    | again c' =>
      refine ⟨h.1, codeAny_mono h.2 fun rr s'' hr' => ?_⟩
      obtain ⟨rfl, h', tk, acc, c', rfl, hk, hS', hi⟩ := hr'
      show wpAny _ A (load s.heap.objs.size >>= _) _ _ _
      exact wpAny_bind (wpAny_load hS' (wpAny_pure (hQ h' tk acc hk hi)))
  · exact absurd h.1 (by simp)

theorem code_tuple_new_dict {Q₁ : Value → Shared → Prop} (K : PySem.W.KdlSrc prog w "dict" r d n P OK) (hh : A.handled = none) (hok : OK s.heap) (hn : n ≤ sizeLine)
    (h : ∀ (h' : Heap) (tk : Nat) (acc : Array Value), (∀ b o, s.heap.get? b = some o → h'.get? b = some o) → ItemsOf P acc n →
      Q₁ (.ref h'.objs.size) { s with heap := h'.push { cls := .type "tuple", data := .seq acc }, toks := tk }) :
    codeAny (model prog w) A (.call (.builtin "tuple.__new__") ⟨[.type "tuple", .ref r], []⟩) (wants Q₁ E) s := by
  refine codeAny_of_tree ?_
  show wpAny _ A.in1 (do checkBuiltinCall "tuple.__new__" ⟨[.type "tuple", .ref r], []⟩; again (.builtin "tuple.__new__" ⟨[.type "tuple", .ref r], []⟩)) _ _ s
  refine wpAny_bind (wpAny_of_eq (F.newCall_tuple_1 _) (wpAny_pure ⟨plainId_quiet F.plain_tuple_new _, codeAny_builtin F.entry_tuple_new ?_⟩))
  rw [Around.under_plainId F.plain_tuple_new _]
  have hsub := sub_tuple_self
  have hinit := init_tuple_lookup
  have hmh := madeHere_tuple
  have hTI : s.TypeIs (.ref r) "dict" := K.type s hok
  have hh1 : A.in1.handled = none := hh
  wp_walk using wpAny_typeOf hTI, collect_src (A := A.in1) K hh1 hok hn
  intro h' tk acc hk hacc
  show wpAny _ _ (Builtin.Tuple.tupleExact acc.toList.toArray >>= fun v => ret v) _ _ _
  unfold Builtin.Tuple.tupleExact
  refine wpAny_bind (wpAny_newObj_type ?_ (by show acc.toList.toArray.size ≤ sizeLine; simp only [Array.toArray_toList]; rw [hacc.1]; exact hn))
  refine wpAny_pure ?_
  have e : acc.toList.toArray = acc := by simp
  rw [e]
  exact h h' tk acc hk hacc

theorem call_tuple_src {Q : Value → Shared → Prop} (K : PySem.W.KdlSrc prog w "dict" r d n P OK) (hh : A.handled = none) (hok : OK s.heap) (hn : n ≤ sizeLine)
    (hQ : ∀ (h' : Heap) (tk : Nat) (acc : Array Value), (∀ b o, s.heap.get? b = some o → h'.get? b = some o) → ItemsOf P acc n →
      Q (.ref h'.objs.size) { s with heap := h'.push { cls := .type "tuple", data := .seq acc }, toks := tk }) :
    wpAny (model prog w) A (call (.type "tuple") [.ref r]) Q E s := by
  refine callType_codes (Q₁ := fun obj s₁ => s₁.TypeIs obj "tuple" ∧ Q obj s₁) F.called_tuple (F.typeCall_tuple_1 _) F.entry_object_init
    (code_tuple_new_dict (A := A.in1) K hh hok hn fun h' tk acc hk hacc => ⟨⟨_, Heap.get?_push_size _ rfl, rfl⟩, hQ h' tk acc hk hacc⟩) fun obj s₁ h₁ => ?_
  exact ⟨h₁.1, F.args_object_init_2 obj _, object_init_meets F.called_tuple.init.lookup F.called_tuple.made (by decide) prog w A.in1 _ s₁ ⟨h₁.1, rfl, h₁.2⟩⟩
end

theorem keyIs_relM {k : Key} {v : Value} (h : keyIs k v = true) : RelV (kV k) v := by
  rcases keyIs_shape h with ⟨i, t, e1, e2⟩ | ⟨x, t, e1, e2⟩
  · subst e1; exact ⟨t, e2⟩
  · subst e1; exact ⟨t, e2⟩
theorem vals_of_atM : ∀ {xs : List V} {us : List Value}, xs.length = us.length → (∀ (j : Nat) (x : V) (u : Value), xs[j]? = some x → us[j]? = some u → RelV x u) → Vals xs us
  | [], [], _, _ => .nil
  | [], _ :: _, h, _ => by simp at h
  | _ :: _, [], h, _ => by simp at h
  | x :: xs, u :: us, h, f => .cons (f 0 x u rfl rfl) (vals_of_atM (by simpa using h) fun j y w h1 h2 => f (j + 1) y w (by simpa using h1) (by simpa using h2))

/-- tuple(d): a new tuple of the keys -/
def rTupD : List V → Hp → VK → Prop := fun xs H Q => ∃ p kvs, xs = [.ref p] ∧ H p = some (.dK kvs) ∧ ∀ q, H q = none → Q (.ref q) (upd H q (.tup (kvs.map fun kv => kV kv.1)))
theorem call_tuple_dK {X : Cx} (hc : X.calm = true) : CallR X (.type "tuple") rTupD := by
  intro pins s σ H xs us Q I r h
  obtain ⟨p, kvs, e, hk, q⟩ := h
  subst e
  obtain ⟨u, eu, rx⟩ := vals1 r
  subst eu
  obtain rfl : u = Value.ref p := rx
  obtain ⟨z, lo, vs, rk, hd⟩ := (show ObjOk X.prog X.w H s.heap p (.dK kvs) from I.hok p _ hk)
  obtain ⟨ep, hat⟩ := hd.dictAt
  have hl : kvs.length = vs.length := Paired.length rk
  refine call_tuple_src (PySem.W.kdl_dict (knd := mixKind X.prog X.w) (kvs := vs) (ep := ep) lo) (I.ok.hd hc) hat (by rw [← hl]; exact z) fun h' tk acc hkeep hacc => ?_
  have I1 : Inv X pins σ H { s with heap := h', toks := tk } := I.kept (t' := tk) hkeep
  refine ⟨.ref h'.objs.size, upd H h'.objs.size (.tup (kvs.map fun kv => kV kv.1)), I1.laid (t' := tk) (fun b o e => Heap.get?_push_of_some _ e) (Nat.le_refl _) (show ObjOk X.prog X.w _ _ _ (.tup (kvs.map fun kv => kV kv.1)) from ⟨?_, acc.toList, ?_, ?_⟩), rfl, q _ (I1.hok.fresh (Nat.le_refl _))⟩
  · rw [List.length_map]; exact z
  · have el : acc.toList.length = acc.size := by simp
    refine vals_of_atM (by rw [List.length_map, el, hacc.1, hl]) fun j x w h1 h2 => ?_
    obtain ⟨k, y, hky, hi⟩ := hacc.2 j w (by rw [← Array.getElem?_toList]; exact h2)
    have e1 : (kvs.map (·.1))[j]? = some k := by
      rw [KV.keys rk, List.getElem?_map, hky] <;> rfl
    have e2 : (kvs.map fun kv => kV kv.1)[j]? = some (kV k) := by
      have e3 : (kvs.map fun kv => kV kv.1) = (kvs.map (·.1)).map kV := by rw [List.map_map] <;> rfl
      rw [e3, List.getElem?_map, e1] <;> rfl
    rw [e2] at h1
    cases h1
    exact keyIs_relM hi
  · rw [Array.toArray_toList]; exact IsTup.new _ _

/-! ### == of dicts whose values are data -/
def DpKV (K : PySem.W.Frag) (H : Hp) (ks : List (Key × V)) (ds : List (Key × PyData)) : Prop := Paired (fun p q => p.1 = q.1 ∧ Dp K H p.2 q.2 ∧ SeqAt.shaped q.2 = true) ks ds
def valD (es : List (Key × PyData)) (k : Key) : Option PyData := (es.find? fun p => decide (p.1 = k)).map (·.2)
def eqvKV (es : List (Key × PyData)) : List (Key × PyData) → Bool
  | [] => true
  | p :: r => (match valD es p.1 with | some e => PyData.eqv p.2 e | none => false) && eqvKV es r
section
variable {X : Cx} {pins : List (Addr × Obj)} {σ : L2.St} {H : Hp} {s : Shared}
theorem DpKV.val {K : PySem.W.Frag} {ls : List (Key × V)} {es : List (Key × PyData)} (h : DpKV K H ls es) (k : Key) : (valV ls k = none ∧ valD es k = none) ∨ ∃ v e, valV ls k = some v ∧ valD es k = some e ∧ Dp K H v e ∧ SeqAt.shaped e = true := by
  unfold valV valD
  induction h with
  | nil => exact .inl ⟨rfl, rfl⟩
  | @cons p q ps qs h t ih =>
    obtain ⟨h1, h2, h3⟩ := h
    by_cases e : p.1 = k
    · rw [List.find?_cons_of_pos (by simpa using e), List.find?_cons_of_pos (by rw [← h1]; simpa using e)]
      exact .inr ⟨_, _, rfl, rfl, h2, h3⟩
    · rw [List.find?_cons_of_neg (by simpa using e), List.find?_cons_of_neg (by rw [← h1]; simpa using e)]
      exact ih
theorem hits_data (I : Inv X pins σ H s) (hu : X.A.in1.units + 64 < cLine) {ls : List (Key × V)} {vb : List (Key × Value)} (rb : KV ls vb) {es : List (Key × PyData)} (hb : DpKV X.K H ls es) :
    ∀ {ks : List (Key × V)} {va : List (Key × Value)} {ds : List (Key × PyData)}, KV ks va → DpKV X.K H ks ds → PySem.W.KeqHits X.A.in1 s vb va (eqvKV es ds) := by
  intro ks va ds ra ha
  unfold KV at ra
  induction ra generalizing ds with
  | nil =>
    cases ha
    exact .nil
  | @cons p q ps qs h t ih =>
    cases ha with
    | @cons _ d _ dr hd tl =>
      obtain ⟨h1, h2⟩ := h
      obtain ⟨g1, g2, g3⟩ := hd
      obtain ⟨key, v⟩ := q
      have h1' : p.1 = key := h1
      have ek : d.1 = key := by rw [← g1]; exact h1
      unfold eqvKV
      rw [ek]
      have rr := rb.val key
      rcases hb.val key with ⟨n1, n2⟩ | ⟨y, e, n1, n2, n3, n4⟩
      · rw [n2]
        rw [n1] at rr
        have nn : valueAt vb key = none := by
          cases hv : valueAt vb key with
          | none => rfl
          | some z => rw [hv] at rr; exact rr.elim
        exact .miss nn
      · rw [n2]
        rw [n1] at rr
        obtain ⟨z, hz, rz⟩ := rr.some_of
        obtain ⟨as, r1⟩ := Dp.reads I d.2 p.2 v g2 h2
        obtain ⟨bs, r2⟩ := Dp.reads I e y z n3 rz
        exact .hit hz (PySem.W.keq_at r1 r2 g3 n4 hu) (ih tl)
def rEqDD (K : PySem.W.Frag) : R2 := fun x y H Q => ∃ a b ks ls ds es, x = .ref a ∧ y = .ref b ∧ H a = some (.dK ks) ∧ H b = some (.dK ls) ∧ DpKV K H ks ds ∧ DpKV K H ls es ∧ Q (.bl (decide (ds.length = es.length) && eqvKV es ds)) H
theorem op_eqDD (hu : X.A.units + 65 < cLine) : OpR X (compareOp .Eq) (rEqDD X.K) := by
  intro pins s σ H x y v u Q I rx ry h
  obtain ⟨a, b, ks, ls, ds, es, rfl, rfl, ea, eb, ha, hb, q⟩ := h
  obtain rfl : v = Value.ref a := rx
  obtain rfl : u = Value.ref b := ry
  obtain ⟨_, ya, va, ra, da⟩ := (show ObjOk X.prog X.w H s.heap a (.dK ks) from I.hok a _ ea)
  obtain ⟨_, yb, vb, rb, db⟩ := (show ObjOk X.prog X.w H s.heap b (.dK ls) from I.hok b _ eb)
  have e1 : va.length = ds.length := by rw [← ra.length]; exact Paired.length ha
  have e2 : vb.length = es.length := by rw [← rb.length]; exact Paired.length hb
  refine PySem.W.keq_eq (knd := mixKind X.prog X.w) (r := eqvKV es ds) ya yb da db (by omega) (fun _ => hits_data I (by show X.A.units + 1 + 64 < cLine; omega) rb hb ra ha) ?_
  refine ⟨.bl _, H, I, rfl, ?_⟩
  rw [show (va.length == vb.length) = decide (ds.length = es.length) from by rw [e1, e2]; rfl]
  exact q
end
end Mf
/-! sorted(xs) of a list of texts of any length. -/
namespace Mf
open PySem PySem.Spec PyProof.Rows L2
section
variable {P : Program} {w : World} {A : Around} {E : Value → Shared → Prop} {s : Shared}
theorem sorted_lst {a : Addr} {its : List Value} {xs : List Str} {Q : Value → Shared → Prop} (hl : s.heap.IsList a its.toArray) (hS : StrsAre its xs) (few : its.length ≤ sizeLine)
    (hQ : ∀ (h' : Heap) (s' : Shared) p (out : Array Value) (c : Nat) (ys : List Str), (∀ b o, s.heap.get? b = some o → h'.get? b = some o) → (∀ b (o : Obj), h'.get? b = some o → s'.heap.get? b = some o) → s'.gens = s.gens → s'.os = s.os → h'.objs.size ≤ p →
      s'.heap.get? p = some (seqObj "list" out c) → StrsAre out.toList ys → sortedS ys = true → ys.Perm xs → Q (.ref p) s') :
    wpAny (model P w) A (call (.builtin "sorted") [.ref a]) Q E s := by
  refine Calls.call_function_entry kind_sorted plain_sorted entry_sorted (args_sorted1 _) ?_
  unfold Builtin.«sorted»
  refine wpAny_bind (m := checkCount "sorted" 1 1 _) (wpAny_pure ?_)
  obtain ⟨o, ho, hc, n, hd⟩ := hl
  refine wpAny_bind (wpAny_collect_seq (hsz := by simpa using few) a (.inl rfl) ho hc hd fun h' hk => ?_)
  have len := (strs_val hS).1
  have el : its.toArray.toList = its := by simp
  rw [el]
  refine wpAny_bind (wpAny_newList ?_ few)
  have hoL : (h'.push (seqObj "list" its.toArray 0)).get? h'.objs.size = some (seqObj "list" its.toArray 0) := Heap.get?_push_size _ rfl
  refine wpAny_bind (wpAny_holding (wpAny_call_entry slot_list_sort ⟨_, hoL, rfl⟩ entry_list_sort (list_sort_treeKAny strKind_oneLt hoL hS.keysOf (fun v₁ v₂ rest e => keyKind_strs (by rw [← e]; exact hS)) few fun st' hp hs => ⟨_, rfl, ?_⟩) (args_list_sort _)))
  obtain ⟨ys, g1', g2, g3⟩ := sorted_out_str hS hp hs
  obtain ⟨c, hc⟩ := sortedHeap_at (vs := its) (out := (arrOf st').map (·.2)) hoL
  refine wpAny_pure ⟨_, rfl, hQ h' _ h'.objs.size _ c ys hk (fun b u q => ?_) rfl rfl (Nat.le_refl _) hc g1' g3 g2⟩
  have lt := Heap.lt_size q
  show (sortedHeap (h'.push (seqObj "list" its.toArray 0)) h'.objs.size its _).get? b = some u
  rw [sortedHeap_old (Nat.ne_of_lt lt) (by rw [size_push']; exact Nat.lt_succ_of_lt lt)]
  exact Heap.get?_push_of_some _ q
end
section
variable {X : Cx}
/-- sorted(xs) of a list of texts -/
def rSortedL (K : PySem.W.Frag) : List V → Hp → VK → Prop := fun vs H Q => ∃ (a : Addr) (xs : List Str), vs = [V.ref a] ∧ SqL K H a (xs.map V.str) ∧
  ∀ (ys : List Str) (p : Addr), ys.Perm xs → sortedS ys = true → H p = none → Q (.ref p) (upd H p (.lst (ys.map V.str)))
theorem cr_sortedL : CallR X (.builtin "sorted") (rSortedL X.K) := by
  intro pins s σ H vs us Q I r h
  obtain ⟨a, xs, rfl, hs, q⟩ := h
  obtain ⟨its, rv, hl, hz⟩ := I.list hs
  rw [Vals.ref1 r]
  have hlen0 := rv.length
  rw [List.length_map] at hlen0
  rw [List.length_map] at hz
  refine sorted_lst hl.isList rv.strs (by rw [← hlen0]; exact hz) fun h' s' p out c ys k0 k g o hp hg hS so pm => ?_
  have I1 := I.kept (t' := s.toks) k0
  have hn : H p = none := I1.hok.fresh hp
  have few : (ys.map V.str).length ≤ sizeLine := by rw [List.length_map, pm.length_eq]; exact hz
  have J : Inv X pins σ (upd H p (.lst (ys.map V.str))) { ({ s with heap := h' } : Shared) with heap := s'.heap, gens := s'.gens, drawn := s'.drawn, toks := s'.toks } :=
    I1.call (ch := []) (Un.laid k hp hn) (I1.hok.laid k hp ⟨few, out.toList, c, vals_of_strs hS, hg⟩) (by rw [g]; exact I.bare) fun _ z => nomatch z
  have e : s' = { s with heap := s'.heap, gens := s'.gens, drawn := s'.drawn, toks := s'.toks } := by
    rcases s' with ⟨_, _, _, _, _⟩
    cases o
    rfl
  rw [e]
  exact ⟨.ref p, _, J, rfl, q ys p pm so hn⟩
theorem k_sortedL (K : PySem.W.Frag) (h : X.K = K := by rfl) : CallR X (.builtin "sorted") (rSortedL K) := h ▸ cr_sortedL
end
end Mf
/-! A walk over a list or a tuple; a def that is called with fewer arguments than it has; what is reached along steps. -/
namespace Mf
open PySem PySem.Spec PyProof.Rows L2
theorem same_SqL {K : PySem.W.Frag} {t : Addr} {H H' : Hp} {xs : List V} (x : Same H H') (h : SqL K H t xs) : SqL K H' t xs := by
  rcases h with (h | ⟨o, h⟩) | h
  · exact .inl (.inl (x _ _ h))
  · exact .inl (.inr ⟨o, x _ _ h⟩)
  · exact .inr h
theorem same_Seq {K : PySem.W.Frag} {t : Addr} {H H' : Hp} {xs : List V} (x : Same H H') (h : SqL K H t xs ∨ SqT K H t xs) : SqL K H' t xs ∨ SqT K H' t xs := h.imp (same_SqL x) x.tup
section
variable {X : Cx} {tg : Expr}
/-- a walk over a list or a tuple -/
def iSeq (K : PySem.W.Frag) (tl : TE) : TI := fun σ H R => tl σ H fun x H1 => ∃ a xs, x = .ref a ∧ (SqL K H1 a xs ∨ SqT K H1 a xs) ∧ ∀ (J : It) (G : Hp → Prop), Walk J xs.length G (YAt xs) → (∀ H', Same H1 H' → G H') → R J H1
theorem pi_seq {l : Expr} {tl : TE} (hl : PE X l tl) : PI X tg l (iSeq X.K tl) := by
  refine ⟨fun pins s σ H R I h => ?_⟩
  refine thn (hl.run pins s σ H _ I h) fun v s1 ⟨x, H1, I1, r1, q1⟩ => ?_
  obtain ⟨a, xs, e, hq | hq, q⟩ := q1
  · subst e
    cases r1
    obtain ⟨its, rv, p, hz⟩ := I1.list hq
    refine wpAny_pyIter_list p.isList ?_
    refine ⟨s1.heap.objs.size, [s1.heap.objs.size], _, _, H1, rfl, I1.kept (t' := s1.toks) fun b o e => Heap.get?_push_of_some _ e, turn_list a _, ⟨_, Heap.get?_push_size _ rfl, rfl, rfl⟩, fun b hb => ?_, q _ _ walk_list fun H' s => same_SqL s hq⟩
    have e : b = s1.heap.objs.size := by simpa using hb
    subst e
    exact I1.fpOk (Nat.le_refl _) (I1.hok.fresh (Nat.le_refl _))
  · subst e
    cases r1
    obtain ⟨its, rv, p, hz⟩ := I1.tuple hq
    refine wpAny_pyIter_tuple (show s1.heap.IsTuple a its.toArray from p) ?_
    refine ⟨s1.heap.objs.size, [s1.heap.objs.size], _, _, H1, rfl, I1.kept (t' := s1.toks) fun b o e => Heap.get?_push_of_some _ e, turn_tuple a _, ⟨_, Heap.get?_push_size _ rfl, rfl, rfl⟩, fun b hb => ?_, q _ _ walk_tup fun H' s => s.tup hq⟩
    have e : b = s1.heap.objs.size := by simpa using hb
    subst e
    exact I1.fpOk (Nat.le_refl _) (I1.hok.fresh (Nat.le_refl _))
theorem piS (K : PySem.W.Frag) {l : Expr} {tl : TE} (hl : PE X l tl) (h : X.K = K := by rfl) : PI X tg l (iSeq K tl) := h ▸ pi_seq hl
end
/-! ### name = {..} on one line, the name a local -/
section
variable {X : Cx}
theorem ps_setDc {i : Nat} {y : Str} {py : Pos} {kx vx tg iter : Expr} {ifs : List Expr} {scope : Scope} {own : List (Str × Nat)} {pos spos : Pos} {wi : TI} {g : TG} {tt : TT} {tk tv : TE} (hc : X.calm = true) (hN : X.N.Nodup) (hy : X.N[i]? = some y) (hyl : X.env.scope.names.lookup y = some .local)
    (hsw : swapsWith (.DictComp kx vx [⟨tg, iter, ifs, 0⟩] scope pos) (some (.Name y py)) spos.line X.env = pure true) (hi : PI X tg iter wi) (ok : BlkOk X.N X.env.scope scope own)
    (hg : ∀ (s : Shared) (H : Hp) (C : Addr) (cl : List (Str × Addr)) (fp : List Addr), PG (X.blk s H scope (compEnvC scope cl C X.env) fp) tg g) (ht : ∀ (s : Shared) (H : Hp) (C : Addr) (cl : List (Str × Addr)) (fp : List Addr), PTs (X.blk s H scope (compEnvC scope cl C X.env) fp) ifs tt)
    (hk : ∀ (s : Shared) (H : Hp) (C : Addr) (cl : List (Str × Addr)) (fp : List Addr), PE (X.blk s H scope (compEnvC scope cl C X.env) fp) kx tk)
    (he : ∀ (s : Shared) (H : Hp) (C : Addr) (cl : List (Str × Addr)) (fp : List Addr), PE (X.blk s H scope (compEnvC scope cl C X.env) fp) vx tv) (hs : ∀ x, foldedSetIterable iter X.env x = pure x := by intro _; rfl) :
    PS X (.Assign [.Name y py] (.DictComp kx vx [⟨tg, iter, ifs, 0⟩] scope pos) spos) (tAsg (tDc wi g tt tk tv (own.map (·.2))) (gName i)) := by
  refine ⟨fun pins s σ H D I h => ?_⟩
  rw [exec_Assign_Name_used _ _ _ _ hsw]
  refine wpAny_bind (wpAny_standAt (wpAny_bind ?_))
  show wpAny _ X.A (do let _ ← comprehension (.DictComp kx vx [⟨tg, iter, ifs, 0⟩] scope pos) scope X.env (firstIterPos [⟨tg, iter, ifs, 0⟩] pos) newDict false (eval iter X.env) (some (assign (.Name y py) X.env))) _ _ s
  have h : tDc wi g tt tk tv (own.map (·.2)) σ H (fun x H1 => gName i x σ H1 D.nx) := h
  refine wpAny_bind (thn (dc_core (Qf := fun _ s' => SP X pins D .next s') hc hN I hi ok hg ht hk he hs h fun L C s' m H' I' q hn f => ?_) fun _ s' hq => wpAny_pure (wpAny_pure hq))
  show wpAny _ _ (assign (.Name y py) X.env (.ref L)) _ _ _
  refine wpAny_assign_Name (store_ok2 (v := V.ref L) I' hN hy (.inl hyl) rfl (fun s2 I2 ⟨a, sb, ha⟩ => ?_) (.inr hyl))
  obtain ⟨f0, f1, f2, f3, f4, f5⟩ := f
  have haC : C ≠ a := by
    rcases ha with z | z
    · rw [z]; exact f1
    · exact fun e => f4 y a z e.symm
  refine ⟨m, hn.sameBut sb haC, fun h3 sb3 => ?_⟩
  exact ⟨_, H', I2.turned (t' := s2.toks) (fun b o hb e => (sb3.2 b hb).trans e) f0 f1 f3 f4 f5, q⟩
theorem sw_trueD {kx vx : Expr} {gs : List Comprehension} {scope : Scope} {pos py : Pos} {y : Str} {l : Nat} {env : Env} (hk : env.scope.kind = .function) (hy : env.scope.names.lookup y = some .local) (hl : (py.line == pos.line) = true)
    (ha : (scope.names.any fun (n, k) => n == y && (k == .local || k == .cell)) = false) : swapsWith (.DictComp kx vx gs scope pos) (some (.Name y py)) l env = pure true := by
  have ky : env.kindOf y = some .local := hy
  have hb : env.blockKind = .function := by unfold Env.blockKind; rw [hk]; rfl
  unfold swapsWith
  simp only [hb, ky, ha, Expr.pos, hl]
  rfl
end
/-- a def with default values, in which nothing is raised -/
theorem funD_ok {P : Program} {w : World} {K : PySem.W.Frag} {mg : Str → Option Value} {base : Heap} {x qual : Str} {params : Arguments} {body : List Stmt} {scope : Scope} {dvs : List V} {kws : List (Str × V)} {f : Addr} {fd : FuncData} {N ps : List Str} {k : Nat} {sp : Sp} (F : FunD K x qual params body scope dvs kws f fd) (S : FnScope N ps scope) (len : ∀ vs H Q E, sp vs H Q E → vs.length = ps.length)
    (hbody : ∀ (cdv : Value) (A : Around) (outer : List Env) (s : Shared) (H : Hp) (vs : List V) (Q : VK) (E : XK), Room k (A.deeper (envOfC qual scope s.heap.objs.size f cdv)) → sp vs H Q E →
      ∃ t, PSs (cxOf CX0 P w K mg base N qual scope f cdv A outer s H E).nox body t ∧ t { nx := fun _ H' => Q .non H', rt := Q } (start N vs) H) : FnOk P w K mg base CX0 (k + 1) f fd ps sp :=
  F.ok S len fun cdv A outer s H vs Q E hr hsp =>
    let ⟨t, h, q⟩ := hbody cdv A outer s H vs Q E hr hsp
    ⟨t, h.nox, q⟩
/-! ### a list of truths -/
theorem lc_bools {J : It} {G : Hp → Prop} {xs : List V} {fs : List Bool} (w : Walk J xs.length G (YAt xs)) {g : TG} {tt : TT} {te : TE} {vs : List Nat} {σ : L2.St} {H0 : Hp} {D : Addr} {Qd : Hp → Prop} (hl : fs.length = xs.length) (few : fs.length ≤ 4000) (hD : H0 D = none) (hG : ∀ H, Same H0 H → G H)
    (hs : ∀ (i : Nat) (x : V) (b : Bool) (H' : Hp) (Qe : VK) (Pf : Hp → Prop), xs[i]? = some x → fs[i]? = some b → Same H0 H' → (∀ H3, Same H' H3 → Qe (.bl b) H3) → g x (wipe σ vs) H' fun σ2 H2 => wipe σ2 vs = wipe σ vs ∧ tt σ2 H2 fun c H3 => if c = true then te σ2 H3 Qe else Pf H3)
    (hd : ∀ H, Same H0 H → H D = some (.lst (fs.map V.bl)) → Qd H) :
    ∃ W : Nat → Nat → Hp → Prop, (∃ m, W 0 m (upd H0 D (.lst []))) ∧ ∀ i m H, W i m H →
      (J.stop i H ∧ Qd H) ∨ (J.go i H ∧ ∃ Nx : Hp → Prop, (∀ H', Nx H' → ∃ m', m' < m ∧ W (i + 1) m' H') ∧ ∀ x H', J.yld i H x H' → g x (wipe σ vs) H' fun σ2 H2 => wipe σ2 vs = wipe σ vs ∧ tt σ2 H2 fun b H3 =>
        if b = true then te σ2 H3 fun y H4 => ∃ acc, H4 D = some (.lst acc) ∧ acc.length < sizeLine ∧ Nx (upd H4 D (.lst (acc ++ [y]))) else Nx H3) := by
  refine lc_it w (fun i H' => Same H0 H' ∧ H' D = some (.lst ((fs.take i).map V.bl))) ⟨Same.new hD, upd_same⟩ (fun i H' _ q => hG _ q.1) ?_ fun H' ⟨s1, h1⟩ => hd H' s1 (by rw [← hl, List.take_length] at h1; exact h1)
  rintro i x _ H1 hi ⟨s1, h1⟩ ⟨rfl, hx⟩
  have hb := List.getElem?_eq_getElem (show i < fs.length by omega)
  refine hs i x fs[i] H1 _ _ hx hb s1 fun H3 s3 => ⟨_, s3 _ _ h1, ?_, (s1.trans s3).mut hD, ?_⟩
  · rw [List.length_map]
    exact Nat.lt_of_le_of_lt (List.length_take_le _ _) (Nat.lt_of_lt_of_le (by omega : i < 4000) (by decide))
  · rw [upd_same, List.take_add_one, hb, List.map_append]; rfl
/-- all of them true -/
theorem lc_yes {J : It} {G : Hp → Prop} {xs : List V} (w : Walk J xs.length G (YAt xs)) {g : TG} {tt : TT} {te : TE} {vs : List Nat} {σ : L2.St} {H0 : Hp} {D : Addr} {Qd : Hp → Prop} (few : xs.length ≤ 4000) (hD : H0 D = none) (hG : ∀ H, Same H0 H → G H)
    (hs : ∀ (i : Nat) (x : V) (H' : Hp) (Qe : VK) (Pf : Hp → Prop), xs[i]? = some x → Same H0 H' → (∀ H3, Same H' H3 → Qe (.bl true) H3) → g x (wipe σ vs) H' fun σ2 H2 => wipe σ2 vs = wipe σ vs ∧ tt σ2 H2 fun c H3 => if c = true then te σ2 H3 Qe else Pf H3)
    (hd : ∀ (H : Hp) (fs : List Bool), Same H0 H → H D = some (.lst (fs.map V.bl)) → fs.all id = true → Qd H) :
    ∃ W : Nat → Nat → Hp → Prop, (∃ m, W 0 m (upd H0 D (.lst []))) ∧ ∀ i m H, W i m H →
      (J.stop i H ∧ Qd H) ∨ (J.go i H ∧ ∃ Nx : Hp → Prop, (∀ H', Nx H' → ∃ m', m' < m ∧ W (i + 1) m' H') ∧ ∀ x H', J.yld i H x H' → g x (wipe σ vs) H' fun σ2 H2 => wipe σ2 vs = wipe σ vs ∧ tt σ2 H2 fun b H3 =>
        if b = true then te σ2 H3 fun y H4 => ∃ acc, H4 D = some (.lst acc) ∧ acc.length < sizeLine ∧ Nx (upd H4 D (.lst (acc ++ [y]))) else Nx H3) := by
  refine lc_bools (fs := List.replicate xs.length true) w (by simp) (by simpa using few) hD hG (fun i x b H' Qe Pf hx hb s1 k => ?_) fun H s1 h1 => hd H _ s1 h1 (by simp)
  have e : b = true := by
    have := List.mem_of_getElem? hb
    exact (List.mem_replicate.mp this).2
  subst e
  exact hs i x H' Qe Pf hx s1 k
/-! ### a def called with its last parameters left to their defaults -/
structure CalD (P : Program) (w : World) (K : PySem.W.Frag) (mg : Str → Option Value) (base : Heap) (CX : CXT) (k : Nat) (x : Str) (ps : List Str) (sp : Sp) (dvs : List V) : Prop where
  ex : ∃ (f : Addr) (fd : FuncData) (ds : List Value), FnOk P w K mg base CX k f fd ps sp ∧ mg x = some (.ref f) ∧ PySem.W.keepIn K (.ref f) = true ∧ Binds K fd ps ds ∧ Vals dvs ds
theorem pe_cald {X : Cx} {CX : CXT} {k : Nat} {x : Str} {ps : List Str} {sp : Sp} {dvs : List V} {E : XK} {e : Expr} {es : List Expr} {t : TA} {p pos : Pos} (c : CalD X.prog X.w X.K X.mg X.base CX k x ps sp dvs) (hr : Room k X.A) (hx : Passes CX X E) (ha : PA X (e :: es) t) (hg : Gl X x := by rfl)
    (hdb : (x == ("__debug__" : Str)) = false := by decide) (he : starEach (e :: es) X.env = (false, eval e X.env) :: starEach es X.env := by rfl) (hpl : (backTo pos (starEach es X.env)).any (·.1) = false := by rfl) :
    PE X (.Call (.Name x p) (e :: es) [] pos) (tCall sp dvs E t) := by
  obtain ⟨f, fd, ds, F, m, kp, b, v⟩ := c.ex
  exact pe_call F hr hg m kp b v hx ha hdb he hpl

/-- x in t, t a tuple of data -/
def rInDT (K : PySem.W.Frag) : R2 := fun x y H Q => ∃ d ds, Dp K H x d ∧ Dp K H y (.tuple ds) ∧ SeqAt.shaped d = true ∧ SeqAt.shaped (.tuple ds) = true ∧ Q (.bl (ds.any fun z => PyData.eqv z d)) H
theorem op_inDT {X : Cx} (hu : X.A.units + 65 < cLine) : OpR X (compareOp .In) (rInDT X.K) := by
  intro pins s σ H x y v u Q I rx ry h
  obtain ⟨d, ds, hd, he, sd, se, q⟩ := h
  obtain ⟨as, r1⟩ := Dp.reads I d x v hd rx
  obtain ⟨bs, r2⟩ := Dp.reads I (.tuple ds) y u he ry
  exact SeqAt.in_tuple_reads r2 r1 (SeqAt.canLay_of_shaped se) (SeqAt.canLay_of_shaped sd) (room_in_shaped sd hu) ⟨.bl _, H, I, rfl, q⟩
theorem inDT {X : Cx} (K : PySem.W.Frag) {k : Nat} (hr : Room (k + 1) X.A) (h : X.K = K := by rfl) : OpR X (compareOp .In) (rInDT K) := h ▸ op_inDT (Room.in1 hr).units
/-- a def with keyword-only parameters, called with keywords ks -/
structure CalK (P : Program) (w : World) (K : PySem.W.Frag) (mg : Str → Option Value) (base : Heap) (CX : CXT) (k : Nat) (x : Str) (ps : List Str) (sp : Sp) (n : Nat) (ks : List Str) (gV : List V → List V → List V) : Prop where
  ex : ∃ (f : Addr) (fd : FuncData) (g : List Value → List Value → List Value), FnOk P w K mg base CX k f fd ps sp ∧ mg x = some (.ref f) ∧ PySem.W.keepIn K (.ref f) = true ∧ KBn K fd ps n ks g gV
theorem pe_calk {X : Cx} {CX : CXT} {k n : Nat} {x : Str} {ps ks : List Str} {sp : Sp} {gV : List V → List V → List V} {E : XK} {e : Expr} {es : List Expr} {kws : List Keyword} {t tk : TA} {p pos : Pos} (c : CalK X.prog X.w X.K X.mg X.base CX k x ps sp n ks gV) (hr : Room k X.A) (hx : Passes CX X E) (ha : PA X (e :: es) t) (hkw : PK X kws tk) (hg : Gl X x := by rfl)
    (hall : (backToKw pos (keywordEach kws X.env)).all (·.1.isSome) = true := by rfl) (hks : (backToKw pos (keywordEach kws X.env)).filterMap (·.1) = ks := by rfl)
    (hdb : (x == ("__debug__" : Str)) = false := by decide) (he : starEach (e :: es) X.env = (false, eval e X.env) :: starEach es X.env := by rfl)
    (hpl : ((backTo pos (starEach (e :: es) X.env)).any (·.1) || (backToKw pos (keywordEach kws X.env)).any (·.1.isNone)) = false := by rfl) :
    PE X (.Call (.Name x p) (e :: es) kws pos) (tCallN n ks.length sp gV E t tk) := by
  obtain ⟨f, fd, g, F, m, kp, b⟩ := c.ex
  exact pe_callN F hr hg m kp b hx ha hkw hall hks hdb he hpl
/-- C(..) of a class that stands in a local name -/
theorem pe_mkl {X : Cx} {CX : CXT} {k : Nat} {x y : Str} {C : Addr} {ps : List Str} {sp : Sp} {dvs : List V} {E : XK} {e : Expr} {es : List Expr} {t : TA} {p pos : Pos} {te : TE} (c : CalC X.prog X.w X.K X.mg X.base CX k x C ps sp dvs) (hr : Room (k + 1) X.A) (hx : Passes CX X E) (hn : PE X (.Name y p) te) (ha : PA X (e :: es) t)
    (he : starEach (e :: es) X.env = (false, eval e X.env) :: starEach es X.env := by rfl) (hpl : (backTo pos (starEach es X.env)).any (·.1) = false := by rfl) :
    PE X (.Call (.Name y p) (e :: es) [] pos) (fun σ H Q => te σ H fun v H1 => v = .ref C ∧ tMake C sp dvs E t σ H1 Q) := by
  obtain ⟨f, fd, ds, M, F, mm, b, v⟩ := c.ex
  refine ⟨fun pins s σ H Q I h => ?_⟩
  refine wpAny_Call_Name_kw (thn (hn.run pins s σ H _ I h) fun u s1 ⟨w, H1, I1, rw, ew, q⟩ => ?_)
  subst ew
  obtain rfl : u = Value.ref C := rw
  refine PySem.W.callWith_K (h₀ := X.base) I1.ok.mod.kin M.kp (thn (ha.run pos pins s1 σ H1 _ I1 q) fun us s2 ⟨vs, H2, I2, r, q⟩ => ⟨I2.kIn, ?_⟩) he hpl
  exact run_make M F hr b v hx I2 r q
/-! ### what is reached along steps -/
/-- a step of y, of one of the kinds, names z -/
def Suc (x : List Pc) (kds : List Str) (y z : Str) : Prop := ∃ ss, (y, ss) ∈ x ∧ ∃ s ∈ ss, s.1 ∈ kds ∧ s.2 = z
inductive Rch (S : Str → Str → Prop) (out : Str → Prop) (st : Str → Prop) : Str → Prop
  | base {z : Str} (h : st z) (n : ¬ out z) : Rch S out st z
  | step {y z : Str} (h : Rch S out st y) (s : S y z) (n : ¬ out z) : Rch S out st z
theorem Rch.sub {S : Str → Str → Prop} {out st : Str → Prop} {fl : Str → Prop} (h1 : ∀ z, st z → ¬ out z → fl z) (h2 : ∀ y z, fl y → S y z → ¬ out z → fl z) : ∀ {z}, Rch S out st z → fl z := fun h => by
  induction h with
  | base h n => exact h1 _ h n
  | step _ s n ih => exact h2 _ _ ih s n
theorem Rch.mono {S : Str → Str → Prop} {out st st' : Str → Prop} (h : ∀ z, st z → ¬ out z → Rch S out st' z) {z : Str} (r : Rch S out st z) : Rch S out st' z := r.sub h fun _ _ a b c => .step a b c
theorem pc_one : ∀ {x : List Pc} {y : Str} {ss tt : List Step}, (x.map (·.1)).Nodup → (y, ss) ∈ x → (y, tt) ∈ x → tt = ss
  | [], _, _, _, _, h, _ => by cases h
  | a :: x, y, ss, tt, nd, h, g => by
    rw [List.map_cons, List.nodup_cons] at nd
    rcases List.mem_cons.mp h with h1 | h1
    · rcases List.mem_cons.mp g with g1 | g1
      · rw [← h1] at g1
        exact (Prod.mk.injEq .. ▸ g1).2
      · exact absurd (List.mem_map.mpr ⟨(y, tt), g1, by rw [← h1]⟩) nd.1
    · rcases List.mem_cons.mp g with g1 | g1
      · exact absurd (List.mem_map.mpr ⟨(y, ss), h1, by rw [← g1]⟩) nd.1
      · exact pc_one nd.2 h1 g1
theorem Suc.one {x : List Pc} {kds : List Str} {y z : Str} {ss : List Step} (nd : (x.map (·.1)).Nodup) (h : (y, ss) ∈ x) : Suc x kds y z ↔ ∃ s ∈ ss, s.1 ∈ kds ∧ s.2 = z :=
  ⟨fun ⟨tt, h2, q⟩ => by rw [pc_one nd h h2] at q; exact q, fun q => ⟨ss, h, q⟩⟩

/-! ### all but lists and dicts stays -/
def NoLD (o : HO) : Prop := (∀ xs, o ≠ .lst xs) ∧ ∀ k, o ≠ .dK k
def SameT (H H' : Hp) : Prop := ∀ b o, NoLD o → H b = some o → H' b = some o
theorem SameT.refl {H : Hp} : SameT H H := fun _ _ _ h => h
theorem SameT.of {H H' : Hp} (x : Same H H') : SameT H H' := fun b o _ h => x b o h
theorem SameT.trans {H H1 H2 : Hp} (x : SameT H H1) (y : SameT H1 H2) : SameT H H2 := fun b o n h => y b o n (x b o n h)
theorem SameT.putL {H H1 : Hp} {p : Addr} {xs : List V} {o : HO} (x : SameT H H1) (h : H1 p = some (.lst xs)) : SameT H (upd H1 p o) := fun b u n e => by
  have q := x b u n e
  rw [upd_ne (fun z => by rw [z, h] at q; exact n.1 xs (Option.some.inj q).symm)]
  exact q
theorem SameT.putD {H H1 : Hp} {p : Addr} {xs : List (Key × V)} {o : HO} (x : SameT H H1) (h : H1 p = some (.dK xs)) : SameT H (upd H1 p o) := fun b u n e => by
  have q := x b u n e
  rw [upd_ne (fun z => by rw [z, h] at q; exact n.2 xs (Option.some.inj q).symm)]
  exact q
theorem noLD_tup {xs : List V} : NoLD (.tup xs) := ⟨(fun _ h => nomatch h), (fun _ h => nomatch h)⟩
theorem SameT.tup {K : PySem.W.Frag} {t : Addr} {H H' : Hp} {xs : List V} (x : SameT H H') (h : SqT K H t xs) : SqT K H' t xs := by
  rcases h with (h | ⟨o, h⟩) | h
  · exact .inl (.inl (x _ _ noLD_tup h))
  · exact .inl (.inr ⟨o, x _ _ ⟨(fun _ h => nomatch h), (fun _ h => nomatch h)⟩ h⟩)
  · exact .inr h
theorem take_not {α : Type} {xs : List α} {i : Nat} {z : α} (nd : xs.Nodup) (h : xs[i]? = some z) : ¬ z ∈ xs.take i := fun m => by
  have e : xs.take (i + 1) = xs.take i ++ [z] := by rw [List.take_add_one, h]; rfl
  have n : (xs.take (i + 1)).Nodup := (List.take_sublist _ _).nodup nd
  rw [e, List.nodup_append] at n
  exact n.2.2 z m z (List.mem_singleton.mpr rfl) rfl
end Mf
/-! for i, x in enumerate(xs), xs a list or a tuple -/
namespace Mf
open PySem PySem.Spec PyProof.Rows L2
set_option maxHeartbeats 1000000 in
theorem meets_enum1 {v : Value} {o : Obj} {Hh : Heap → Prop} (B : Begins v o Hh) : Meets (Builtin.«enumerate.__new__» ⟨[.type "enumerate", v], []⟩) (fun _ R s => Hh s.heap ∧
    R (.ok (.ret (.ref (s.heap.push o).objs.size))) { s with heap := (s.heap.push o).push { cls := .type "enumerate", data := .fields #[.none, .bool false, .ref s.heap.objs.size, rawInt 0, .none, .none] } }) := by
  refine .of_wp fun prog w A R s => ?_
  rcases s with ⟨hp, g, d, tk, os⟩
  rintro ⟨h1, h⟩
  have sub := sub_enumerate
  have begun : ∀ {A' : Around} {E : Value → Shared → Prop} {Q : Value → Shared → Prop}, Q (.ref hp.objs.size) ⟨hp.push o, g, d, tk, os⟩ → wpAny (model prog w) A' (pyIter v) Q E ⟨hp, g, d, tk, os⟩ := fun k => B.iter prog w _ _ ⟨hp, g, d, tk, os⟩ _ h1 k
  wp_walk using begun
  refine wpAny_stack_any fun st => wpAny_pure ?_
  split
  · rename_i c _ _ _ _ _
    cases c == Value.type "enumerate" <;> (wp_walk using begun; exact ⟨_, rfl, h⟩)
  · wp_walk using begun; exact ⟨_, rfl, h⟩
theorem enum1_begins {prog : Program} {w : World} {A : Around} {E : Value → Shared → Prop} {s : Shared} {v : Value} {o : Obj} {Hh : Heap → Prop} {Q : Value → Shared → Prop} (B : Begins v o Hh) (h1 : Hh s.heap)
    (h : ∀ h', IsEnum h' (s.heap.objs.size + 1) s.heap.objs.size 0 .none → h'.get? s.heap.objs.size = some o → (∀ b q, s.heap.get? b = some q → h'.get? b = some q) → Q (.ref (s.heap.objs.size + 1)) { s with heap := h' }) :
    wpAny (model prog w) A (call (.type "enumerate") [v]) Q E s := by
  have sz : (s.heap.push o).objs.size = s.heap.objs.size + 1 := Heap.size_push ..
  have en : IsEnum ((s.heap.push o).push { cls := .type "enumerate", data := .fields #[.none, .bool false, .ref s.heap.objs.size, rawInt 0, .none, .none] }) (s.heap.push o).objs.size s.heap.objs.size 0 .none := Heap.get?_push_size _ rfl
  refine callType_new F.called_enumerate (by decide) (F.typeCall_enumerate_1 _) (F.newCall_enumerate_1 _) (fun obj => F.args_object_init_2 obj _) F.entry_enumerate_new (meets_enum1 B) ⟨h1, ?_⟩
  rw [sz] at en
  show _ ∧ _
  rw [sz]
  exact ⟨⟨_, en, rfl⟩, h _ en (Heap.get?_push_of_some _ (Heap.get?_push_size _ B.free)) fun b q e => Heap.get?_push_of_some _ (Heap.get?_push_of_some _ e)⟩
theorem pi_enumA {X : Cx} {e : Expr} {ta : TA} {p pos tpos : Pos} {elts : List Expr} {kk : Nat} (hg : Gl X "enumerate") (hm : X.mg "enumerate" = none) (ha : PA X [e] ta)
    (hs : starEach [e] X.env = [(false, eval e X.env)] := by rfl) : PI X (.Tuple elts kk tpos) (.Call (.Name "enumerate" p) [e] [] pos) (iEnumS X.K 0 ta) := by
  refine ⟨fun pins s σ H R I h => Call_ (ld_blt I hg hm PyProof.Rows.boot_enumerate (PyProof.Rows.callWith_type1 (thn (ha.run pos pins s σ H _ I h) ?_) hs rfl))⟩
  rintro us s1 ⟨vs, H1, I1, r1, a, xs, rfl, q1⟩
  rw [Vals.ref1 r1]
  have fresh : ∀ b ∈ [s1.heap.objs.size + 1, s1.heap.objs.size], FpOk X pins H1 b := fun b hb => by
    simp only [List.mem_cons, List.not_mem_nil, or_false] at hb
    rcases hb with rfl | rfl
    · exact I1.fpOk (Nat.le_succ _) (I1.hok.fresh (Nat.le_succ _))
    · exact I1.fpOk (Nat.le_refl _) (I1.hok.fresh (Nat.le_refl _))
  rcases q1 with ⟨hq, q⟩ | ⟨hq, q⟩
  · obtain ⟨its, rv, p', hz⟩ := I1.list hq
    refine enum1_begins (begins_list a its.toArray) p'.isList fun h' he ho hk => wpAny_pyIter_enum he ?_
    exact ⟨_, [s1.heap.objs.size + 1, s1.heap.objs.size], _, _, H1, rfl, I1.kept (t' := s1.toks) hk, turn_fromL 0 _ _ a, ⟨⟨_, by simpa using he⟩, ⟨_, ho, rfl, rfl⟩, Nat.succ_ne_self _⟩, fresh, q⟩
  · obtain ⟨its, rv, p', hz⟩ := I1.tuple hq
    refine enum1_begins (begins_tuple a its.toArray) (isTuple_of p') fun h' he ho hk => wpAny_pyIter_enum he ?_
    exact ⟨_, [s1.heap.objs.size + 1, s1.heap.objs.size], _, _, H1, rfl, I1.kept (t' := s1.toks) hk, turn_fromT 0 _ _ a, ⟨⟨_, by simpa using he⟩, ⟨_, ho, rfl, rfl⟩, Nat.succ_ne_self _⟩, fresh, q⟩
end Mf
/-! {k: v}, k a tuple of ints and texts -/
namespace Mf
open PySem PySem.Spec PyProof.Rows L2
def tD1T (tk tv : TE) : TE := fun σ H Q => ∀ p, H p = none → tPairs [(tk, tv)] σ (upd H p (.dT [])) fun ps H2 => ∃ x y b ks, ps = [(x, y)] ∧ x = .ref b ∧ H2 b = some (.tup (ks.map kV)) ∧ H2 p = some (.dT []) ∧ Q (.ref p) (upd H2 p (.dT [(ks, y)]))
theorem pe_d1T {X : Cx} {k v : Expr} {tk tv : TE} {pos : Pos} (hu : X.A.units + 1 < cLine) (hk : PE X k tk) (hv : PE X v tv) : PE X (.Dict [some k] [v] pos) (tD1T tk tv) := by
  refine ⟨fun pins s σ H Q I q => ?_⟩
  have hn := I.hok.fresh (Nat.le_refl s.heap.objs.size)
  have I1 := I.laid (a := s.heap.objs.size) (o := .dT []) (h' := s.heap.push { cls := .type "dict", data := .dict #[] }) (t' := s.toks) (fun _ _ q => Heap.get?_push_of_some _ q) (Nat.le_refl _) (dt_empty s.heap I.big)
  have one : ([some k] : List (Option Expr)).length ≤ 15 := by show 1 ≤ 15; decide
  refine wpAny_Dict_any rfl rfl (by simp) one (thn ((pps_cons (pos := pos) hk hv pps_nil).run pins _ σ _ (fun ps H2 => ∃ x y b ks, ps = [(x, y)] ∧ x = .ref b ∧ H2 b = some (.tup (ks.map kV)) ∧ H2 s.heap.objs.size = some (.dT []) ∧ Q (.ref s.heap.objs.size) (upd H2 s.heap.objs.size (.dT [(ks, y)]))) I1 ?_) fun ws s2 ⟨ps, H2, I2, rel, x, y, b, ks, e1, e2, eb, ed, g⟩ => ?_)
  · exact q _ hn
  · subst e1 e2
    cases rel with
    | @cons _ q _ qs h t =>
      cases t
      obtain ⟨u, r⟩ := q
      obtain ⟨ru, rr⟩ := h
      cases (show u = Value.ref b from ru)
      obtain ⟨z, hd, xs, kt, dd⟩ := dt_of I2.hok ed
      cases kt
      have room : (tupleKind (mixKind X.prog X.w)).room X.A := Nat.lt_of_succ_lt hu
      refine wpAny_storeAllH (knd := tupleKind (mixKind X.prog X.w)) room [(.ref b, r)] [(ks, b, r)] [] s2 _ ⟨rfl, rfl, key_of I2.hok eb, trivial⟩ dd (by show 0 + 1 ≤ sizeLine; decide) fun h' tk' dd' hs => ?_
      obtain ⟨q, es, ep, hq, h2, h3, h4, _, h5⟩ := dd'
      have new : ObjOk X.prog X.w (upd H2 s.heap.objs.size (.dT [(ks, y)])) h' s.heap.objs.size (.dT [(ks, y)]) :=
        ⟨(by show 1 ≤ sizeLine; decide), hd, [(ks, b, r)], .cons ⟨rfl, by rw [upd_ne (ne_of eb ed (fun z => nomatch z))]; exact eb, rr⟩ .nil, q, es, ep, hq, h2, h3, h4, h5⟩
      exact ⟨.ref s.heap.objs.size, _, d_write I2 (by rw [ed]; exact True.intro) hs ⟨q, hq⟩ new, rfl, g⟩
end Mf
/-! a tuple made of a dict, kept whole: its methods can be called -/
namespace Mf
open PySem PySem.Spec PyProof.Rows L2
/-- a tuple without a dict of its own stands at n -/
def NmT (H : Hp) (n : Addr) (xs : List V) : Prop := ∃ o : Obj, o.cls = .type "tuple" ∧ o.dict = none ∧ H n = some (.frz o (.tup xs))
theorem NmT.sq {K : PySem.W.Frag} {H : Hp} {n : Addr} {xs : List V} (h : NmT H n xs) : SqT K H n xs := let ⟨o, _, _, e⟩ := h; .inl (.inr ⟨o, e⟩)
theorem NmT.mv {H H' : Hp} {n : Addr} {xs : List V} (h : NmT H n xs) (k : ∀ o, H n = some (.frz o (.tup xs)) → H' n = some (.frz o (.tup xs))) : NmT H' n xs := let ⟨o, a, b, e⟩ := h; ⟨o, a, b, k o e⟩
theorem NmT.same {H H' : Hp} {n : Addr} {xs : List V} (h : NmT H n xs) (s : Same H H') : NmT H' n xs := h.mv fun _ e => s _ _ e
def rTupDF : List V → Hp → VK → Prop := fun xs H Q => ∃ p kvs, xs = [.ref p] ∧ H p = some (.dK kvs) ∧ ∀ q o, H q = none → o.cls = .type "tuple" → o.dict = none → Q (.ref q) (upd H q (.frz o (.tup (kvs.map fun kv => kV kv.1))))
theorem call_tuple_dKF {X : Cx} (hc : X.calm = true) : CallR X (.type "tuple") rTupDF := by
  intro pins s σ H xs us Q I r h
  obtain ⟨p, kvs, e, hk, q⟩ := h
  subst e
  obtain ⟨u, eu, rx⟩ := vals1 r
  subst eu
  obtain rfl : u = Value.ref p := rx
  obtain ⟨z, lo, vs, rk, hd⟩ := (show ObjOk X.prog X.w H s.heap p (.dK kvs) from I.hok p _ hk)
  obtain ⟨ep, hat⟩ := hd.dictAt
  have hl : kvs.length = vs.length := Paired.length rk
  refine call_tuple_src (PySem.W.kdl_dict (knd := mixKind X.prog X.w) (kvs := vs) (ep := ep) lo) (I.ok.hd hc) hat (by rw [← hl]; exact z) fun h' tk acc hkeep hacc => ?_
  have I1 : Inv X pins σ H { s with heap := h', toks := tk } := I.kept (t' := tk) hkeep
  refine ⟨.ref h'.objs.size, upd H h'.objs.size (.frz { cls := .type "tuple", data := .seq acc } (.tup (kvs.map fun kv => kV kv.1))), I1.laid (t' := tk) (fun b o e => Heap.get?_push_of_some _ e) (Nat.le_refl _) (show ObjOk X.prog X.w _ _ _ (.frz _ (.tup (kvs.map fun kv => kV kv.1))) from ⟨Heap.get?_push_size _ rfl, ?_, acc.toList, ?_, ?_⟩), rfl, q _ _ (I1.hok.fresh (Nat.le_refl _)) rfl rfl⟩
  · rw [List.length_map]; exact z
  · have el : acc.toList.length = acc.size := by simp
    refine vals_of_atM (by rw [List.length_map, el, hacc.1, hl]) fun j x w h1 h2 => ?_
    obtain ⟨k, y, hky, hi⟩ := hacc.2 j w (by rw [← Array.getElem?_toList]; exact h2)
    have e1 : (kvs.map (·.1))[j]? = some k := by
      rw [KV.keys rk, List.getElem?_map, hky] <;> rfl
    have e2 : (kvs.map fun kv => kV kv.1)[j]? = some (kV k) := by
      have e3 : (kvs.map fun kv => kV kv.1) = (kvs.map (·.1)).map kV := by rw [List.map_map] <;> rfl
      rw [e3, List.getElem?_map, e1] <;> rfl
    rw [e2] at h1
    cases h1
    exact keyIs_relM hi
  · rw [Array.toArray_toList]; exact IsTup.new _ _
/-- a method of such a tuple -/
def tBMT (r : V → List V → Hp → VK → Prop) (to : TE) (t : TA) : TE := fun σ H Q => to σ H fun x H1 => (∃ n xs, x = .ref n ∧ NmT H1 n xs) ∧ t σ H1 fun xs H2 => r x xs H2 Q
theorem pe_bmT {X : Cx} {o e : Expr} {es : List Expr} {to : TE} {t : TA} {name : Str} {apos cpos : Pos} {id : String} {r : V → List V → Hp → VK → Prop}
    (pa : PlainAttrs "tuple") (slot : Slot "tuple" name id) (hty : typeOf (.builtin id) = pure (.type "method_descriptor")) (hm : MtR X id r) (ho : PE X o to) (ha : PA X (e :: es) t)
    (hbase : attributeBase o name X.env (eval o X.env) = eval o X.env := by rfl)
    (hfew : ((backTo cpos (starEach (e :: es) X.env)).all (fun x => !x.1) && (backToKw cpos (keywordEach [] X.env)).all (fun x => x.1.isSome)
      && decide ((e :: es).length + ([] : List Keyword).length + (if ([] : List Keyword).isEmpty then 0 else 1) < 30)) = true := by rfl)
    (hline : (apos.endLine == cpos.line) = true := by rfl) (hs : starEach (e :: es) X.env = (false, eval e X.env) :: starEach es X.env := by rfl) (hplain : (backTo cpos (starEach es X.env)).any (·.1) = false := by rfl) :
    PE X (.Call (.Attribute o name apos) (e :: es) [] cpos) (tBMT r to t) := by
  refine ⟨fun pins s σ H Q I h => ?_⟩
  refine wpAny_Call_method_late hbase hfew hline rfl (thn (ho.run pins s σ H _ I h) fun v s1 ⟨x, H1, I1, r1, ⟨n, xs, ex, ob, hc, hd, hn⟩, q1⟩ => ?_)
  subst ex
  obtain rfl : v = Value.ref n := r1
  have g := (show ObjOk X.prog X.w H1 s1.heap n (.frz ob (.tup xs)) from I1.hok n _ hn).1
  refine ⟨"tuple", id, pa, slot, hty, ⟨ob, g, hc⟩, fun a ea => by cases ea; exact ⟨ob, g, hd⟩, ?_⟩
  have hA := ha.run cpos pins s1 σ H1 _ I1 q1
  rw [hs] at hA ⊢
  refine Calls.callWith_builtin (by show (false || (backTo cpos (starEach es X.env)).any (·.1)) = false; rw [hplain] <;> rfl) (Calls.evalArgs_plain ?_)
  exact thn hA fun us s2 ⟨vs, H2, I2, r2, q2⟩ => hm pins s2 σ H2 (.ref n) vs (.ref n) us Q I2 rfl r2 q2
end Mf
namespace Mf
open PySem L2
def top (i : Nat) : Stmt := PySem.Challenge.pw_midfall_k90_reads_in_another_order.main.body.getD i (.Pass ⟨0, 0, 0, 0⟩)
abbrev sSource : Stmt := top 44
abbrev sDraw : Stmt := top 45
section
variable {P : Program} {w : World} {K : PySem.W.Frag} {mg : Str → Option Value} {base : Heap}

/-! ### _law_source -/
def spSource (K : PySem.W.Frag) : Sp := fun vs H Q _ => ∃ (a : Addr) (ns : List Int), vs = [.ref a] ∧ SqL K H a (ns.map V.int) ∧ ns.length ≤ 63 ∧ ∀ p H', H p = none → Same H H' → Src H' p 1000000000 → Q (.ref p) H'
theorem scSource : FnScope ["_law_script", "_law_great", "_law_seed", "_law_k", "_law_cell"] ["_law_script"] (defScope sSource) := ⟨rfl, rfl, rfl, by decide +kernel, rfl, by decide +kernel, by decide +kernel⟩
theorem ok_source {f : Addr} {fd : FuncData} (F : Fun K "_law_source" "_law_source" sSource f fd) (mI : mg "int" = none) (mE : mg "enumerate" = none) : FnOk P w K mg base CX0 1 f fd ["_law_script"] (spSource K) := by
  refine F.ok scSource (fun vs H Q E h => ?_) (fun cdv A outer s H vs Q E hr h => ?_)
  · obtain ⟨a, ns, rfl, _⟩ := h
    rfl
  · obtain ⟨a, ns, rfl, hs, hl, k⟩ := h
    refine ⟨_, pss_cons (ps_set (i := 1) scSource.nd rfl (.inl rfl) pe_int) (pss_cons (ps_set (i := 2) scSource.nd rfl (.inl rfl) pe_int)
      (pss_cons (ps_for PassesOwn.never rfl (pi_enum (by rfl) mE (pa_cons (pv 0) pa_nil)) (pg_tup rfl (pgs_cons (pg_name (i := 3) scSource.nd rfl (.inl rfl)) (pgs_cons (pg_name (i := 4) scSource.nd rfl (.inl rfl)) pgs_nil)))
        (C8.pss_cut (ps_if (PW.pt (pw_and (pt_cmpR op_eq (pv 1) pe_int (nomark _)) (pw_and1 (pt_cmpR op_ge (pv 4) (pe_op op_pow pe_int pe_int) (nomark _))))) (pss_one (ps_set (i := 1) scSource.nd rfl (.inl rfl) (pv 4))) pss_nil)
        (pss_one (ps_set (i := 2) scSource.nd rfl (.inl rfl) (pe_op op_mod (pe_callTy call_int1 (by rfl) mI (by decide +kernel) (pa_cons (pe_op op_add (pe_op op_mul (pe_op op_add (pv 2) (pe_op op_mod (pe_callTy call_int1 (by rfl) mI (by decide +kernel) (pa_cons (pv 4) pa_nil)) pe_int)) pe_int) (pv 3)) pa_nil)) pe_int)))))
      (pss_one (ps_ret (pe_lst (pa_cons (pv 1) (pa_cons (pv 2) (pa_cons pe_int pa_nil)))))))), ?_⟩
    refine ⟨_, rfl, a, _, rfl, hs, ?_⟩
    refine for_it walk_enum (fun i σ H' => ∃ (g s : Int) (vk vc : Option V), σ = [some (.ref a), some (.int g), some (.int s), vk, vc] ∧ 0 ≤ s ∧ s < 2147483647 ∧ Same H H') ⟨0, 104729, none, none, rfl, by decide, by decide, Same.refl H⟩ (fun i σ H' _ h => h.choose_spec.choose_spec.choose_spec.choose_spec.2.2.2.seq hs) ?_ ?_
    · rintro i x σ H1 H2 hi ⟨g, s, vk, vc, rfl, s0, s1, sm⟩ ⟨T, x1, y, rfl, hT, rfl, e1, e2⟩
      obtain rfl : x1 = .int (i : Nat) := (Option.some.inj e1).symm
      have e2 : (ns.map V.int)[i]? = some y := e2
      rw [List.getElem?_map] at e2
      obtain ⟨m, _, rfl⟩ := Option.map_eq_some_iff.mp e2
      refine ⟨T, _, rfl, .of upd_same, rfl, _, _, rfl, _, _, rfl, rfl, ?_⟩
      refine ⟨fun σ' H' => ∃ g' : Int, σ' = [some (.ref a), some (.int g'), some (.int s), some (.int (i : Nat)), some (.int m)] ∧ H' = upd H1 T (.tup [.int (i : Nat), .int m]), ?_, ?_⟩
      · refine ⟨_, rfl, rfl, _, rfl, ite2 (fun _ => ?_) fun _ => ?_⟩
        · refine ⟨_, rfl, _, _, rfl, rfl, ⟨by decide, by decide, by decide⟩, _, _, rfl, rfl, _, rfl, ite2 (fun _ => ?_) fun _ => ?_⟩
          · exact ⟨_, rfl, m, rfl, rfl⟩
          · exact ⟨g, rfl, rfl⟩
        · exact iteF ⟨g, rfl, rfl⟩
      · rintro σ' H' ⟨g', rfl, rfl⟩
        refine ⟨_, rfl, _, rfl, .inl ⟨_, rfl, _, _, rfl, rfl, (by show (0 : Int) < 2147483629; decide), _, _, rfl, rfl, _, _, rfl, rfl, .inr ⟨(by show -(2 ^ 64) < (48271 : Int); decide), (by show (48271 : Int) < 2 ^ 64; decide)⟩, _, rfl, _, _, rfl, rfl, .inl ⟨_, rfl, _, _, rfl, rfl, (by show (0 : Int) < 2147483647; decide), ?_⟩⟩⟩
        exact ⟨_, _, _, _, rfl, Int.emod_nonneg _ (by decide), Int.emod_lt_of_pos _ (by decide), sm.trans (Same.new hT)⟩
    · rintro σ H1 ⟨g, s, vk, vc, rfl, s0, s1, sm⟩
      refine ⟨_, rfl, _, rfl, (by show 3 ≤ sizeLine; decide), fun p hp => ?_⟩
      exact k p _ (sm.free hp) (sm.trans (Same.new hp)) ⟨g, s, 0, upd_same, s0, s1, by decide, by decide⟩

/-! ### _law_draw -/
def spDraw : Sp := fun vs H Q _ => ∃ (a : Addr) (many : Int) (n : Nat), vs = [.ref a, .int many] ∧ 0 < many ∧ many.natAbs < 2 ^ 200 ∧ Src H a (n + 1) ∧ ∀ v H', 0 ≤ v → v < many → Kp a H H' → Src H' a n → Q (.int v) H'
theorem scDraw : FnScope ["_law_source_here", "_law_many", "_law_value", "_law_stirred"] ["_law_source_here", "_law_many"] (defScope sDraw) := ⟨rfl, rfl, rfl, by decide +kernel, rfl, by decide +kernel, by decide +kernel⟩
theorem ok_draw {f : Addr} {fd : FuncData} (F : Fun K "_law_draw" "_law_draw" sDraw f fd) (mI : mg "int" = none) : FnOk P w K mg base CX0 1 f fd ["_law_source_here", "_law_many"] spDraw := by
  refine F.ok scDraw (fun vs H Q E h => ?_) (fun cdv A outer s H vs Q E hr h => ?_)
  · obtain ⟨a, m, n, rfl, _⟩ := h
    rfl
  · obtain ⟨a, many, n, rfl, m0, mb, ⟨g, sd, c, ha, s0, s1, c0, c1⟩, k⟩ := h
    refine ⟨_, pss_cons (ps_if (pt_cmpR op_gt (pe_ix ix_list (pv 0) pe_int (fun _ _ => rfl)) pe_int (nomark _))
        (pss_cons (ps_set (i := 2) scDraw.nd rfl (.inl rfl) (pe_op op_mod (pe_callTy call_int1 (by rfl) mI (by decide +kernel) (pa_cons (pe_ix ix_list (pv 0) pe_int (fun _ _ => rfl)) pa_nil)) (pv 1)))
        (pss_cons (ps_asg (pe_op op_fdivW (pe_ix ix_list (pv 0) pe_int (fun _ _ => rfl)) (pv 1)) (pg_sub (pv 0) pe_int set_list))
        (pss_one (ps_ret (pv 2))))) pss_nil)
      (pss_cons (ps_asg (pe_op op_add (pe_ix ix_list (pv 0) pe_int (fun _ _ => rfl)) pe_int) (pg_sub (pv 0) pe_int set_list))
      (pss_cons (ps_set (i := 3) scDraw.nd rfl (.inl rfl) (pe_op op_mod (pe_callTy call_int1 (by rfl) mI (by decide +kernel) (pa_cons (pe_op op_pow (pe_op op_add (pe_ix ix_list (pv 0) pe_int (fun _ _ => rfl)) (pe_op op_mul pe_int (pe_ix ix_list (pv 0) pe_int (fun _ _ => rfl)))) pe_int) pa_nil)) pe_int))
      (pss_one (ps_ret (pe_op op_mod (pe_callTy call_int1 (by rfl) mI (by decide +kernel) (pa_cons (pe_op op_mod (pe_callTy call_int1 (by rfl) mI (by decide +kernel) (pa_cons (pe_op op_mul (pe_op op_add (pv 3) (pe_ix ix_list (pv 0) pe_int (fun _ _ => rfl))) pe_int) pa_nil)) pe_int) pa_nil)) (pv 1)))))), ?_⟩
    refine ⟨_, rfl, a, _, _, _, rfl, rfl, .of ha, rfl, _, _, rfl, rfl, _, rfl, ite2 (fun _ => ?_) fun _ => ?_⟩
    · refine ⟨_, rfl, a, _, _, _, rfl, rfl, .of ha, rfl, .inl ⟨_, rfl, _, rfl, _, _, rfl, rfl, m0, ?_⟩⟩
      refine ⟨_, rfl, a, _, _, _, rfl, rfl, .of ha, rfl, _, rfl, _, _, rfl, rfl, wide_div m0 mb (by decide) (by decide), _, rfl, a, _, _, 0, rfl, rfl, ha, rfl, _, rfl, ?_⟩
      exact k _ _ (Int.emod_nonneg _ (by omega)) (Int.emod_lt_of_pos _ m0) (Kp.refl.put) ⟨g / many, sd, c, upd_same, s0, s1, c0, by omega⟩
    · refine ⟨_, rfl, a, _, _, _, rfl, rfl, .of ha, rfl, _, _, rfl, rfl, _, rfl, a, _, _, 2, rfl, rfl, ha, rfl, ?_⟩
      have h2 : (upd H a (.lst [.int g, .int sd, .int (c + 1)])) a = some (.lst [.int g, .int sd, .int (c + 1)]) := upd_same
      refine ⟨_, rfl, a, _, _, _, rfl, rfl, .of h2, rfl, _, rfl, a, _, _, _, rfl, rfl, .of h2, rfl, _, _, rfl, rfl, .inl ⟨(by show -(2 ^ 64) < (7919 : Int); decide), (by show (7919 : Int) < 2 ^ 64; decide)⟩, _, _, rfl, rfl, _, _, rfl, rfl, ⟨by decide, by decide, ?_⟩, .inl ⟨_, rfl, _, _, rfl, rfl, (by show (0 : Int) < 2147483647; decide), ?_⟩⟩
      · show (sd + 7919 * (c + 1)).natAbs < 2 ^ 64
        omega
      · refine ⟨_, rfl, _, rfl, a, _, _, _, rfl, rfl, .of h2, rfl, _, _, rfl, rfl, _, _, rfl, rfl, .inr ⟨(by show -(2 ^ 64) < (40692 : Int); decide), (by show (40692 : Int) < 2 ^ 64; decide)⟩, .inl ⟨_, rfl, _, _, rfl, rfl, (by show (0 : Int) < 2147483629; decide), .inl ⟨_, rfl, _, rfl, _, _, rfl, rfl, m0, ?_⟩⟩⟩
        exact k _ _ (Int.emod_nonneg _ (by omega)) (Int.emod_lt_of_pos _ m0) (Kp.refl.put) ⟨g, sd, c + 1, h2, s0, s1, by omega, by omega⟩
end
end Mf
namespace Mf
open PySem L2
section
variable {P : Program} {w : World} {K : PySem.W.Frag} {mg : Str → Option Value} {base : Heap}

/-! ### is_name -/
def nameB (z : Str) : Bool := decide (1 ≤ z.length) && decide (z.length ≤ 8) && z.cps.toList.all fun c => decide (97 ≤ c) && decide (c ≤ 122)
theorem nameB_iff (z : Str) : nameB z = true ↔ IsName z := by
  have h : z.length = z.cps.size := rfl
  unfold nameB IsName
  rw [h, Bool.and_eq_true_iff, Bool.and_eq_true_iff, List.all_eq_true]
  refine ⟨fun ⟨⟨a, b⟩, c⟩ => ⟨of_decide_eq_true a, of_decide_eq_true b, fun x hx => ?_⟩, fun ⟨a, b, c⟩ => ⟨⟨decide_eq_true a, decide_eq_true b⟩, fun x hx => ?_⟩⟩
  · have q := Bool.and_eq_true_iff.mp (c x hx)
    exact ⟨of_decide_eq_true q.1, of_decide_eq_true q.2⟩
  · have q := c x hx
    exact Bool.and_eq_true_iff.mpr ⟨decide_eq_true q.1, decide_eq_true q.2⟩
theorem sign_le (a b : Nat) : (!decide ([b] < [a])) = decide (a ≤ b) := by
  have e : ([b] < [a]) ↔ b < a := by
    rw [List.cons_lt_cons_iff]
    simp
  by_cases h : a ≤ b
  · rw [decide_eq_true h, decide_eq_false (fun q => by have := e.mp q; omega)]; rfl
  · rw [decide_eq_false h, decide_eq_true (e.mpr (by omega))]; rfl
theorem le_of_sign {c : Nat} (q : (!decide ([c] < [97])) = true) : 97 ≤ c := by
  rw [sign_le] at q; exact of_decide_eq_true q
theorem le_sign {c : Nat} (q : 97 ≤ c) : (!decide ([c] < [97])) = true := by
  rw [sign_le]; exact decide_eq_true q
def spIsName : Sp := fun vs H Q _ => ∃ z : Str, vs = [.str z] ∧ z.length ≤ sizeLine ∧ ∀ H', Same H H' → Q (.bl (nameB z)) H'
abbrev sIs_name : Stmt := top 12
theorem scIs_name : FnScope ["value", "letter"] ["value"] (defScope sIs_name) := ⟨rfl, rfl, rfl, by decide +kernel, rfl, by decide +kernel, by decide +kernel⟩
theorem ok_is_name {f : Addr} {fd : FuncData} {t : Tok} (F : Fun K "is_name" "is_name" sIs_name f fd) (mIsi : mg "isinstance" = none) (mStr : mg "str" = none) (mLen : mg "len" = none) (mAll : mg "all" = none) (mg_LONGEST_NAME : mg "LONGEST_NAME" = some (.int 8 t)) : FnOk P w K mg base CX0 1 f fd ["value"] spIsName := by
  refine F.ok scIs_name (fun vs H Q E h => ?_) (fun cdv A outer s H vs Q E hr h => ?_)
  · obtain ⟨z, rfl, _⟩ := h
    rfl
  · obtain ⟨z, rfl, hz, k⟩ := h
    refine ⟨_, (pss_cons (ps_if (PW.pt (pw_or (pt_not (pt_val (pe_callB (k_isi K) (by rfl) mIsi (by decide +kernel) (pa_cons (pv 0) (pa_cons (pe_bltn (v := .ty "str") (by rfl) mStr (by decide +kernel) rfl) pa_nil))))) (pw_or1 (pt_not (pt_chain op_le op_le pe_int (pe_callB call_len_str (by rfl) mLen (by decide +kernel) (pa_cons (pv 0) pa_nil)) (pe_glob (v := .int 8) rfl mg_LONGEST_NAME ⟨_, rfl⟩))))))
        (pss_one (ps_ret pe_bl)) pss_nil)
      (pss_one (ps_ret (pe_callB (k_all K) (by rfl) mAll (by decide +kernel) (pa_cons (pe_lc (own := [("letter", 1)]) (g := (gName 1)) (tt := tYes) rfl scIs_name.nd (pi_str (pv 0)) (blkOk_by (own := [("letter", 1)]) (N := ["value", "letter"]) (sc := defScope sIs_name) (by decide +kernel)) (fun _ _ _ _ _ => (pg_name (i := 1) scIs_name.nd rfl (by first | exact Or.inl rfl | exact Or.inr rfl))) (fun _ _ _ _ _ => pts_nil) (fun _ _ _ _ _ => (pe_chain op_le_str op_le_str pe_str (pv 1) pe_str))) pa_nil))))), ?_⟩
    refine ⟨_, rfl, _, _, _, _, true, rfl, .ty _, .base (.str _), kit_ty (by decide +kernel), _, rfl, iteF ?_⟩
    refine ⟨_, rfl, z, rfl, hz, _, _, rfl, rfl, _, rfl, ite2 (fun a1 => ?_) fun a1 => ?_⟩
    · have b1 : 1 ≤ z.length := by have := of_decide_eq_true a1; omega
      refine ⟨_, _, rfl, rfl, _, rfl, ite2 (fun a2 => ?_) fun a2 => ?_⟩
      · have b2 : ¬ z.length ≤ 8 := fun q => by
          rw [decide_eq_true (by omega : (z.length : Int) ≤ 8)] at a2; cases a2
        have e : nameB z = false := by unfold nameB; rw [decide_eq_false b2, Bool.and_false, Bool.false_and]
        have q := k H (Same.refl H)
        rw [e] at q; exact q
      · have b2 : z.length ≤ 8 := by
          by_cases q : z.length ≤ 8
          · exact q
          · rw [decide_eq_false (by omega : ¬ (z.length : Int) ≤ 8)] at a2; exact absurd a2 (by decide)
        refine ⟨_, rfl, _, rfl, fun D hD => ?_⟩
        refine lc_it walk_str (fun i H' => H' D = some (.lst (((z.cps.toList.take i).map fun c => decide (97 ≤ c) && decide (c ≤ 122)).map V.bl)) ∧ Same H H') ⟨upd_same, Same.new hD⟩ (fun _ _ _ _ => trivial) ?_ ?_
        · rintro i x H4 H5 hi ⟨h4, s4⟩ ⟨rfl, c, hc, rfl⟩
          refine ⟨rfl, yes_then ?_⟩
          have hc' : z.cps.toList[i]? = some c := by rw [Array.getElem?_toList]; exact hc
          have hlen : i < z.length := hi
          have fin : ∀ b : Bool, b = (decide (97 ≤ c) && decide (c ≤ 122)) → ∃ acc, H5 D = some (.lst acc) ∧ acc.length < sizeLine ∧
              upd H5 D (.lst (acc ++ [.bl b])) D = some (.lst (((z.cps.toList.take (i + 1)).map fun c => decide (97 ≤ c) && decide (c ≤ 122)).map V.bl)) ∧ Same H (upd H5 D (.lst (acc ++ [.bl b]))) := by
            rintro b rfl
            refine ⟨_, h4, ?_, ?_, s4.mut hD⟩
            · rw [List.length_map, List.length_map]
              exact Nat.lt_of_le_of_lt (List.length_take_le _ _) (Nat.lt_of_lt_of_le (by omega : i < 9) (by decide))
            · rw [upd_same, List.take_add_one, hc', List.map_append, List.map_append]; rfl
          refine ⟨_, rfl, _, _, rfl, rfl, _, rfl, ite2 (fun q => ?_) fun q => ?_⟩
          · refine ⟨_, _, rfl, rfl, ?_⟩
            refine fin _ ?_
            have e1 : 97 ≤ c := le_of_sign q
            rw [decide_eq_true e1, Bool.true_and]
            exact sign_le c 122
          · refine fin false ?_
            have e1 : ¬ 97 ≤ c := fun h => q (le_sign h)
            rw [decide_eq_false e1, Bool.false_and]
        · rintro H4 ⟨h4, s4⟩
          refine ⟨D, _, rfl, .of h4, ?_⟩
          have e : nameB z = (((z.cps.toList.take z.cps.size).map fun c => decide (97 ≤ c) && decide (c ≤ 122)).all id) := by
            unfold nameB
            rw [decide_eq_true b1, decide_eq_true b2, List.take_of_length_le (by rw [Array.length_toList]; exact Nat.le_refl _), List.all_map]
            rfl
          have q := k H4 s4
          rw [e] at q
          exact q
    · have b1 : ¬ 1 ≤ z.length := fun q => by
        rw [decide_eq_true (by omega : (1 : Int) ≤ z.length)] at a1; exact a1 rfl
      have e : nameB z = false := by unfold nameB; rw [decide_eq_false b1, Bool.false_and, Bool.false_and]
      have q := k H (Same.refl H)
      rw [e] at q
      exact ⟨_, rfl, iteT q⟩
end
end Mf
namespace Mf
open PySem L2
section
variable {P : Program} {w : World} {K : PySem.W.Frag} {mg : Str → Option Value} {base : Heap}

/-! ### _is_step, of two texts -/
def kinds : List Str := ["read", "say", "call", "try"]
def stepB (kd wd : Str) : Bool := decide (kd ∈ kinds) && nameB wd
def spIsStep : Sp := fun vs H Q _ => ∃ (t : Addr) (kd wd : Str), vs = [.ref t] ∧ H t = some (.tup [.str kd, .str wd]) ∧ wd.length ≤ sizeLine ∧ ∀ H', Same H H' → Q (.bl (stepB kd wd)) H'
abbrev sIs_step : Stmt := top 21
theorem scIs_step : FnScope ["step"] ["step"] (defScope sIs_step) := ⟨rfl, rfl, rfl, by decide +kernel, rfl, by decide +kernel, by decide +kernel⟩
theorem ok_is_step {f aK : Addr} {fd : FuncData} (F : Fun K "_is_step" "_is_step" sIs_step f fd) (mIsi : mg "isinstance" = none) (mTuple : mg "tuple" = none) (mLen : mg "len" = none) (mg_KINDS : mg "KINDS" = some (.ref aK)) (qK : ∀ H, SqT K H aK (kinds.map V.str))
    (c_is_name : Cal P w K mg base CX0 1 "is_name" ["value"] spIsName) : FnOk P w K mg base CX0 2 f fd ["step"] spIsStep := by
  refine F.ok scIs_step (fun vs H Q E h => ?_) (fun cdv A outer s H vs Q E hr h => ?_)
  · obtain ⟨t, kd, wd, rfl, _⟩ := h
    rfl
  · obtain ⟨t, kd, wd, rfl, ht, hw, k⟩ := h
    have hr_is_name := hr
    refine ⟨_, (pss_one (ps_ret (pe_and (pe_callB (k_isi K) (by rfl) mIsi (by decide +kernel) (pa_cons (pv 0) (pa_cons (pe_bltn (v := .ty "tuple") (by rfl) mTuple (by decide +kernel) rfl) pa_nil))) (pe_and (pe_cmpR op_eq (pe_callB (k_len K) (by rfl) mLen (by decide +kernel) (pa_cons (pv 0) pa_nil)) pe_int (nomark _)) (pe_and (pe_cmpR (oin K) (pe_ix (ixt K) (pv 0) pe_int (fun _ _ => rfl)) (pe_glob (v := .ref _) rfl mg_KINDS rfl) (by rfl)) (pe_one (pe_cal c_is_name hr_is_name pass0 (pa_cons (pe_ix (ixt K) (pv 0) pe_int (fun _ _ => rfl)) pa_nil)))))))), ?_⟩
    refine ⟨_, rfl, _, _, _, _, true, rfl, .ty _, .base (.tup ht), kit_ty (by decide +kernel), _, rfl, iteT ?_⟩
    refine ⟨_, rfl, t, _, rfl, .inr (.of ht), ?_⟩
    refine ⟨rfl, _, rfl, iteT ?_⟩
    refine ⟨_, rfl, t, _, 0, _, rfl, rfl, .of ht, rfl, ?_⟩
    refine ⟨aK, _, rfl, .inr (qK _), rfl, flat_strs kinds, _, rfl, ?_⟩
    show if inV (.str kd) (kinds.map V.str) = true then _ else _
    rw [inV_str]
    refine ite2 (fun q => ?_) fun q => ?_
    · refine ⟨_, rfl, t, _, 1, _, rfl, rfl, .of ht, rfl, wd, rfl, hw, fun H' s' => ?_⟩
      have e : stepB kd wd = nameB wd := by unfold stepB; rw [q, Bool.true_and]
      have z := k H' s'
      rw [e] at z; exact z
    · have e : stepB kd wd = false := by unfold stepB; rw [Bool.eq_false_iff.mpr q, Bool.false_and]
      have z := k H (Same.refl H)
      rw [e] at z; exact z
end
end Mf
namespace Mf
open PySem L2
section
variable {P : Program} {w : World} {K : PySem.W.Frag} {mg : Str → Option Value} {base : Heap}

/-! ### _is_body, of steps that are two texts -/
/-- the steps ss lie at the addresses ts -/
def StA (H : Hp) (ts : List Addr) (ss : List (Str × Str)) : Prop := Paired (fun t s => H t = some (.tup [.str s.1, .str s.2])) ts ss
theorem StA.same {H H' : Hp} {ts : List Addr} {ss : List (Str × Str)} (x : StA H ts ss) (h : Same H H') : StA H' ts ss := by
  induction x with
  | nil => exact .nil
  | cons a _ ih => exact .cons (h _ _ a) ih
theorem StA.get {H : Hp} {ts : List Addr} {ss : List (Str × Str)} (x : StA H ts ss) {i : Nat} {t : Addr} (h : ts[i]? = some t) : ∃ s, ss[i]? = some s ∧ H t = some (.tup [.str s.1, .str s.2]) := by
  induction x generalizing i with
  | nil => simp at h
  | cons a _ ih =>
    match i, h with
    | 0, h => cases h; exact ⟨_, rfl, a⟩
    | i + 1, h => exact ih h
theorem SameL {t : Addr} {H H' : Hp} {xs : List V} (x : Same H H') (h : SqL K H t xs) : SqL K H' t xs := by
  rcases h with (h | ⟨o, h⟩) | h
  · exact .inl (.inl (x _ _ h))
  · exact .inl (.inr ⟨o, x _ _ h⟩)
  · exact .inr h
theorem StA.mem {ss : List (Str × Str)} {i : Nat} {s : Str × Str} (h : ss[i]? = some s) : s ∈ ss := List.mem_of_getElem? h
def bodyB (ss : List (Str × Str)) : Bool := decide (ss.length ≤ 12) && ss.all fun s => stepB s.1 s.2
def spIsBody (K : PySem.W.Frag) : Sp := fun vs H Q _ => ∃ (b : Addr) (ts : List Addr) (ss : List (Str × Str)), vs = [.ref b] ∧ (SqL K H b (ts.map V.ref) ∨ SqT K H b (ts.map V.ref)) ∧ StA H ts ss ∧ (∀ s ∈ ss, s.2.length ≤ sizeLine) ∧
  ∀ H', Same H H' → Q (.bl (bodyB ss)) H'
abbrev sIs_body : Stmt := top 20
theorem scIs_body : FnScope ["steps", "step"] ["steps"] (defScope sIs_body) := ⟨rfl, rfl, rfl, by decide +kernel, rfl, by decide +kernel, by decide +kernel⟩
theorem ok_is_body {f : Addr} {fd : FuncData} {tk : Tok} (F : Fun K "_is_body" "_is_body" sIs_body f fd) (mLen : mg "len" = none) (mAll : mg "all" = none) (mg_MOST_STEPS : mg "MOST_STEPS" = some (.int 12 tk))
    (c__is_step : Cal P w K mg base CX0 2 "_is_step" ["step"] spIsStep) : FnOk P w K mg base CX0 3 f fd ["steps"] (spIsBody K) := by
  refine F.ok scIs_body (fun vs H Q E h => ?_) (fun cdv A outer s H vs Q E hr h => ?_)
  · obtain ⟨b, ts, ss, rfl, _⟩ := h
    rfl
  · obtain ⟨b, ts, ss, rfl, hb, st, hw, k⟩ := h
    have hr__is_step := hr
    have ln : ts.length = ss.length := Paired.length st
    rcases hb with hb | hb
    · refine ⟨_, (pss_one (ps_ret (pe_and (pe_cmpR op_le (pe_callB (k_len K) (by rfl) mLen (by decide +kernel) (pa_cons (pv 0) pa_nil)) (pe_glob (v := .int 12) rfl mg_MOST_STEPS ⟨_, rfl⟩) (nomark _)) (pe_one (pe_callB (k_all K) (by rfl) mAll (by decide +kernel) (pa_cons (pe_lc (own := [("step", 1)]) (g := (gName 1)) (tt := tYes) rfl scIs_body.nd (pi_list (pv 0)) (blkOk_by (own := [("step", 1)]) (N := ["steps", "step"]) (sc := defScope sIs_body) (by decide +kernel)) (fun _ _ _ _ _ => (pg_name (i := 1) scIs_body.nd rfl (by first | exact Or.inl rfl | exact Or.inr rfl))) (fun _ _ _ _ _ => pts_nil) (fun _ _ _ _ _ => (pe_cal c__is_step hr__is_step pass0 (pa_cons (pv 1) pa_nil)))) pa_nil)))))), ?_⟩
      refine ⟨_, rfl, b, _, rfl, .inl hb, _, _, rfl, rfl, _, rfl, ite2 (fun q => ?_) fun q => ?_⟩
      · have few : decide (ss.length ≤ 12) = true := by
          have q := of_decide_eq_true q
          rw [List.length_map, ln] at q
          exact decide_eq_true (by omega)
        refine ⟨_, rfl, b, rfl, ⟨_, hb⟩, fun D hD => ?_⟩
        refine lc_it walk_list (fun i H' => H' D = some (.lst (((ss.take i).map fun s => stepB s.1 s.2).map V.bl)) ∧ Same H H') ⟨upd_same, Same.new hD⟩ (fun i H' _ q => SameL q.2 hb) ?_ ?_
        · rintro i x H4 H5 hi ⟨h4, s4⟩ ⟨rfl, hx⟩
          rw [List.getElem?_map] at hx
          obtain ⟨t, ht, rfl⟩ := Option.map_eq_some_iff.mp hx
          obtain ⟨s, hs, hts⟩ := st.get ht
          have li : i < ts.length := by rw [List.length_map] at hi; exact hi
          have f12 : ss.length ≤ 12 := of_decide_eq_true few
          refine ⟨rfl, yes_then ?_⟩
          refine ⟨_, rfl, t, s.1, s.2, rfl, s4 _ _ hts, hw s (StA.mem hs), fun H6 s6 => ⟨_, s6 _ _ h4, ?_, ?_, (s4.trans s6).mut hD⟩⟩
          · rw [List.length_map, List.length_map]
            exact Nat.lt_of_le_of_lt (List.length_take_le _ _) (Nat.lt_of_lt_of_le (by omega : i < 12) (by decide))
          · rw [upd_same, List.take_add_one, hs, List.map_append, List.map_append]; rfl
        · rintro H4 ⟨h4, s4⟩
          refine ⟨D, _, rfl, .of h4, ?_⟩
          have e : bodyB ss = (((ss.take (ts.map V.ref).length).map fun s => stepB s.1 s.2).all id) := by
            unfold bodyB
            rw [few, Bool.true_and, List.take_of_length_le (by rw [List.length_map, ln]; exact Nat.le_refl _), List.all_map]
            rfl
          have z := k H4 s4
          rw [e] at z
          exact z
      · have few : decide (ss.length ≤ 12) = false := by
          refine decide_eq_false fun h => q (decide_eq_true ?_)
          rw [List.length_map, ln]
          omega
        have e : bodyB ss = false := by unfold bodyB; rw [few, Bool.false_and]
        have z := k H (Same.refl H)
        rw [e] at z
        exact z
    · refine ⟨_, (pss_one (ps_ret (pe_and (pe_cmpR op_le (pe_callB (k_len K) (by rfl) mLen (by decide +kernel) (pa_cons (pv 0) pa_nil)) (pe_glob (v := .int 12) rfl mg_MOST_STEPS ⟨_, rfl⟩) (nomark _)) (pe_one (pe_callB (k_all K) (by rfl) mAll (by decide +kernel) (pa_cons (pe_lc (own := [("step", 1)]) (g := (gName 1)) (tt := tYes) rfl scIs_body.nd (pi_tup (pv 0)) (blkOk_by (own := [("step", 1)]) (N := ["steps", "step"]) (sc := defScope sIs_body) (by decide +kernel)) (fun _ _ _ _ _ => (pg_name (i := 1) scIs_body.nd rfl (by first | exact Or.inl rfl | exact Or.inr rfl))) (fun _ _ _ _ _ => pts_nil) (fun _ _ _ _ _ => (pe_cal c__is_step hr__is_step pass0 (pa_cons (pv 1) pa_nil)))) pa_nil)))))), ?_⟩
      refine ⟨_, rfl, b, _, rfl, .inr hb, _, _, rfl, rfl, _, rfl, ite2 (fun q => ?_) fun q => ?_⟩
      · have few : decide (ss.length ≤ 12) = true := by
          have q := of_decide_eq_true q
          rw [List.length_map, ln] at q
          exact decide_eq_true (by omega)
        refine ⟨_, rfl, b, rfl, ⟨_, hb⟩, fun D hD => ?_⟩
        refine lc_it walk_tup (fun i H' => H' D = some (.lst (((ss.take i).map fun s => stepB s.1 s.2).map V.bl)) ∧ Same H H') ⟨upd_same, Same.new hD⟩ (fun i H' _ q => q.2.tup hb) ?_ ?_
        · rintro i x H4 H5 hi ⟨h4, s4⟩ ⟨rfl, hx⟩
          rw [List.getElem?_map] at hx
          obtain ⟨t, ht, rfl⟩ := Option.map_eq_some_iff.mp hx
          obtain ⟨s, hs, hts⟩ := st.get ht
          have li : i < ts.length := by rw [List.length_map] at hi; exact hi
          have f12 : ss.length ≤ 12 := of_decide_eq_true few
          refine ⟨rfl, yes_then ?_⟩
          refine ⟨_, rfl, t, s.1, s.2, rfl, s4 _ _ hts, hw s (StA.mem hs), fun H6 s6 => ⟨_, s6 _ _ h4, ?_, ?_, (s4.trans s6).mut hD⟩⟩
          · rw [List.length_map, List.length_map]
            exact Nat.lt_of_le_of_lt (List.length_take_le _ _) (Nat.lt_of_lt_of_le (by omega : i < 12) (by decide))
          · rw [upd_same, List.take_add_one, hs, List.map_append, List.map_append]; rfl
        · rintro H4 ⟨h4, s4⟩
          refine ⟨D, _, rfl, .of h4, ?_⟩
          have e : bodyB ss = (((ss.take (ts.map V.ref).length).map fun s => stepB s.1 s.2).all id) := by
            unfold bodyB
            rw [few, Bool.true_and, List.take_of_length_le (by rw [List.length_map, ln]; exact Nat.le_refl _), List.all_map]
            rfl
          have z := k H4 s4
          rw [e] at z
          exact z
      · have few : decide (ss.length ≤ 12) = false := by
          refine decide_eq_false fun h => q (decide_eq_true ?_)
          rw [List.length_map, ln]
          omega
        have e : bodyB ss = false := by unfold bodyB; rw [few, Bool.false_and]
        have z := k H (Same.refl H)
        rw [e] at z
        exact z
end
end Mf
namespace Mf
open PySem L2
section
variable {P : Program} {w : World} {K : PySem.W.Frag} {mg : Str → Option Value} {base : Heap}

/-! ### _checked_bodies, of procedures that are right -/
/-- a procedure: its name, where its body lies, where its steps lie, the steps -/
structure Pr where
  name : Str
  b : Addr
  ts : List Addr
  ss : List (Str × Str)
def PrA (K : PySem.W.Frag) (H : Hp) (p : Addr) (r : Pr) : Prop := SqT K H p [.str r.name, .ref r.b] ∧ (SqL K H r.b (r.ts.map V.ref) ∨ SqT K H r.b (r.ts.map V.ref)) ∧ StA H r.ts r.ss
theorem PrA.same {H H' : Hp} {p : Addr} {r : Pr} (x : PrA K H p r) (h : Same H H') : PrA K H' p r :=
  ⟨h.tup x.1, x.2.1.elim (fun q => .inl (SameL h q)) (fun q => .inr (h.tup q)), x.2.2.same h⟩
def Right (r : Pr) : Prop := IsName r.name ∧ bodyB r.ss = true ∧ ∀ s ∈ r.ss, s.2.length ≤ sizeLine
/-- the dict of the bodies: names to where the tuples lie -/
def kvsOf : List Pr → List Addr → List (Key × V)
  | r :: rs, u :: us => (Sum.inr r.name, V.ref u) :: kvsOf rs us
  | _, _ => []
def BoA (K : PySem.W.Frag) (H : Hp) (us : List Addr) (rs : List Pr) : Prop := Paired (fun u r => SqT K H u (r.ts.map V.ref)) us rs
theorem BoA.same {H H' : Hp} {us : List Addr} {rs : List Pr} (x : BoA K H us rs) (h : Same H H') : BoA K H' us rs := by
  induction x with
  | nil => exact .nil
  | cons a _ ih => exact .cons (h.tup a) ih
theorem kvsOf_snoc : ∀ {rs : List Pr} {us : List Addr} (r : Pr) (u : Addr), us.length = rs.length → kvsOf (rs ++ [r]) (us ++ [u]) = kvsOf rs us ++ [(Sum.inr r.name, V.ref u)]
  | [], [], r, u, _ => rfl
  | a :: rs, b :: us, r, u, h => by
    show _ :: kvsOf (rs ++ [r]) (us ++ [u]) = _
    rw [kvsOf_snoc r u (by simpa using h)]; rfl
  | [], b :: us, _, _, h => by simp at h
  | a :: rs, [], _, _, h => by simp at h
theorem kvsOf_any : ∀ {rs : List Pr} {us : List Addr} {z : Str}, us.length = rs.length → (kvsOf rs us).any (fun kv => decide (kv.1 = Sum.inr z)) = decide (z ∈ rs.map Pr.name)
  | [], [], z, _ => by simp [kvsOf]
  | a :: rs, b :: us, z, h => by
    show (decide ((Sum.inr a.name : Key) = Sum.inr z) || (kvsOf rs us).any _) = _
    rw [kvsOf_any (by simpa using h)]
    by_cases e : a.name = z
    · simp [e]
    · simp [e, Ne.symm e]
  | [], b :: us, _, h => by simp at h
  | a :: rs, [], _, h => by simp at h
theorem kvsOf_len : ∀ {rs : List Pr} {us : List Addr}, us.length = rs.length → (kvsOf rs us).length = rs.length
  | [], [], _ => rfl
  | a :: rs, b :: us, h => by
    show (kvsOf rs us).length + 1 = rs.length + 1
    rw [kvsOf_len (by simpa using h)]
  | [], b :: us, h => by simp at h
  | a :: rs, [], h => by simp at h
def spChecked (K : PySem.W.Frag) : Sp := fun vs H Q _ => ∃ (a : Addr) (ps : List Addr) (rs : List Pr), vs = [.ref a] ∧ (SqL K H a (ps.map V.ref) ∨ SqT K H a (ps.map V.ref)) ∧ Paired (PrA K H) ps rs ∧ rs.length ≤ 16 ∧ rs ≠ [] ∧ (rs.map Pr.name).Nodup ∧ (∀ r ∈ rs, Right r) ∧
  ∀ d us H', H' d = some (.dK (kvsOf rs us)) → BoA K H' us rs → Same H H' → Q (.ref d) H'
abbrev sChecked_bodies : Stmt := top 19
theorem scChecked_bodies : FnScope ["procedures", "bodies", "line", "name", "body"] ["procedures"] (defScope sChecked_bodies) := ⟨rfl, rfl, rfl, by decide +kernel, rfl, by decide +kernel, by decide +kernel⟩
theorem paired_get {α β : Type} {R : α → β → Prop} {xs : List α} {ys : List β} (r : Paired R xs ys) {i : Nat} {x : α} (h : xs[i]? = some x) : ∃ y, ys[i]? = some y ∧ R x y := by
  induction r generalizing i with
  | nil => simp at h
  | cons a _ ih =>
    match i, h with
    | 0, h => cases h; exact ⟨_, rfl, a⟩
    | i + 1, h => exact ih h
theorem paired_snoc {α β : Type} {R : α → β → Prop} {xs : List α} {ys : List β} (r : Paired R xs ys) {x : α} {y : β} (h : R x y) : Paired R (xs ++ [x]) (ys ++ [y]) := by
  induction r with
  | nil => exact .cons h .nil
  | cons a _ ih => exact .cons a ih
theorem SqT_put {H : Hp} {d u : Addr} {o : HO} {kvs : List (Key × V)} {xs : List V} (h : H d = some (.dK kvs)) (x : SqT K H u xs) : SqT K (upd H d o) u xs := by
  rcases x with (x | ⟨q, x⟩) | x
  · exact .inl (.inl (by rw [upd_ne (fun e => by rw [e, h] at x; simp at x)]; exact x))
  · exact .inl (.inr ⟨q, by rw [upd_ne (fun e => by rw [e, h] at x; simp at x)]; exact x⟩)
  · exact .inr x
theorem BoA.put {H : Hp} {d : Addr} {o : HO} {kvs : List (Key × V)} {us : List Addr} {rs : List Pr} (h : H d = some (.dK kvs)) (x : BoA K H us rs) : BoA K (upd H d o) us rs := by
  induction x with
  | nil => exact .nil
  | cons a _ ih => exact .cons (SqT_put h a) ih
theorem fresh_name {rs : List Pr} {i : Nat} {r : Pr} (nd : (rs.map Pr.name).Nodup) (h : rs[i]? = some r) : r.name ∉ (rs.take i).map Pr.name := by
  intro m
  rw [List.map_take] at m
  obtain ⟨j, hj, e⟩ := List.mem_take_iff_getElem.mp m
  have hi : i < rs.length := by
    rcases Nat.lt_or_ge i rs.length with q | q
    · exact q
    · rw [List.getElem?_eq_none q] at h; cases h
  have hr : rs[i] = r := by rw [List.getElem?_eq_getElem hi] at h; exact Option.some.inj h
  have e2 : (rs.map Pr.name)[i]'(by simpa using hi) = r.name := by rw [List.getElem_map, hr]
  have hl : i < (rs.map Pr.name).length := by simpa using hi
  exact (List.pairwise_iff_getElem.mp nd) j i (by omega) hl (by omega) (e.trans e2.symm)
theorem no_val {kvs : List (Key × V)} {k : Key} (h : kvs.any (fun kv => decide (kv.1 = k)) = false) : valV kvs k = none := by
  unfold valV
  rw [List.find?_eq_none.mpr]
  · rfl
  · intro x hx q
    have := List.any_eq_false.mp h x hx
    exact this q
theorem ok_checked {f : Addr} {fd : FuncData} {tk : Tok} (F : Fun K "_checked_bodies" "_checked_bodies" sChecked_bodies f fd) (mEnum : mg "enumerate" = none) (mTuple : mg "tuple" = none) (mg_MOST_PROCEDURES : mg "MOST_PROCEDURES" = some (.int 16 tk))
    (c_is_name : Cal P w K mg base CX0 1 "is_name" ["value"] spIsName) (c__is_body : Cal P w K mg base CX0 3 "_is_body" ["steps"] (spIsBody K)) : FnOk P w K mg base CX0 4 f fd ["procedures"] (spChecked K) := by
  refine F.ok scChecked_bodies (fun vs H Q E h => ?_) (fun cdv A outer s H vs Q E hr h => ?_)
  · obtain ⟨a, ps, rs, rfl, _⟩ := h
    rfl
  · obtain ⟨a, ps, rs, rfl, ha, pr, few, ne, nd, ri, k⟩ := h
    have hr__is_body := hr
    have hr_is_name := hr.mono (by omega : 1 ≤ 3)
    have ln : ps.length = rs.length := Paired.length pr
    have hu : (A.deeper (PyProof.Rows.envOfC "_checked_bodies" (defScope sChecked_bodies) s.heap.objs.size f cdv)).units + 1 < cLine := by have := hr.units; omega
    refine ⟨_, (pss_cons (ps_set (i := 1) scChecked_bodies.nd rfl (by first | exact Or.inl rfl | exact Or.inr rfl) pe_dnewK)
      (pss_cons (ps_for PassesOwn.never rfl (pi_enumS (by rfl) mEnum (pa_cons (pv 0) pa_nil) (by decide) (by decide)) (pg_tup rfl (pgs_cons (pg_name (i := 2) scChecked_bodies.nd rfl (by first | exact Or.inl rfl | exact Or.inr rfl)) (pgs_cons (pg_tup rfl (pgs_cons (pg_name (i := 3) scChecked_bodies.nd rfl (by first | exact Or.inl rfl | exact Or.inr rfl)) (pgs_cons (pg_name (i := 4) scChecked_bodies.nd rfl (by first | exact Or.inl rfl | exact Or.inr rfl)) pgs_nil))) pgs_nil)))
        (pss_cons (ps_if (PW.pt (pw_or (pt_cmpR op_gt (pv 2) (pe_glob (v := .int 16) rfl mg_MOST_PROCEDURES ⟨_, rfl⟩) (nomark _)) (pw_or (pt_not (pt_val (pe_cal c_is_name hr_is_name pass0 (pa_cons (pv 3) pa_nil)))) (pw_or (pt_cmp (pc_din hu (pv 3) (pv 1))) (pw_or1 (pt_not (pt_val (pe_cal c__is_body hr__is_body pass0 (pa_cons (pv 4) pa_nil)))))))))
          (pss_one ps_never) pss_nil)
        (pss_one (ps_asg (pe_callTy (k_tuple K) (by rfl) mTuple (by decide +kernel) (pa_cons (pv 4) pa_nil)) (pg_sub (pv 1) (pv 3) (set_dict hu))))))
      (pss_cons (ps_if (pt_not (pt_truth (pv 1) (by intro _; rfl)))
        (pss_one ps_never) pss_nil)
      (pss_one (ps_ret (pv 1)))))), ?_⟩
    refine fun d hd => ?_
    have s0 := Same.new (o := .dK []) hd
    refine ⟨_, rfl, a, ps.map V.ref, rfl, ?_⟩
    rcases ha with ha | ha
    · refine .inl ⟨SameL s0 ha, ?_⟩
      refine for_it walk_enumSL (fun i σ H' => ∃ (us : List Addr) (vl vn vb : Option V), σ = [some (.ref a), some (.ref d), vl, vn, vb] ∧ us.length = i ∧ H' d = some (.dK (kvsOf (rs.take i) us)) ∧ BoA K H' us (rs.take i) ∧ Same H H') ⟨[], none, none, none, rfl, rfl, upd_same, .nil, s0⟩ (fun i σ H' _ q => SameL q.choose_spec.choose_spec.choose_spec.choose_spec.2.2.2.2 ha) ?_ ?_
      · rintro i x σ H1 H2 hi ⟨us, vl, vn, vb, rfl, lu, h1, bo, s1⟩ ⟨T, x1, y, rfl, hT, rfl, e1, e2⟩
        obtain rfl : x1 = .int (1 + (i : Nat)) := (Option.some.inj e1).symm
        have e2 : (ps.map V.ref)[i]? = some y := e2
        rw [List.getElem?_map] at e2
        obtain ⟨p, hp, rfl⟩ := Option.map_eq_some_iff.mp e2
        obtain ⟨r, hr2, pa⟩ := paired_get pr hp
        have rm : r ∈ rs := List.mem_of_getElem? hr2
        obtain ⟨nm, bb, ls⟩ := ri r rm
        have ir : i < rs.length := by rw [← ln]; simpa using hi
        have s2 := s1.trans (Same.new (o := .tup [.int (1 + (i : Nat)), .ref p]) hT)
        have p2 := pa.same s2
        have h2 := (Same.new (o := .tup [.int (1 + (i : Nat)), .ref p]) hT) _ _ h1
        have bo2 := bo.same (Same.new (o := .tup [.int (1 + (i : Nat)), .ref p]) hT)
        have lt : us.length = (rs.take i).length := by rw [lu, List.length_take]; omega
        refine ⟨T, _, rfl, .of upd_same, rfl, _, _, rfl, _, _, rfl, p, _, rfl, p2.1, rfl, _, _, rfl, _, _, rfl, rfl, rfl, ?_⟩
        refine ⟨_, rfl, _, _, rfl, rfl, _, rfl, ite2 (fun q => by have := of_decide_eq_true q; omega) fun _ => ?_⟩
        refine ⟨_, rfl, r.name, rfl, Nat.le_trans nm.len (by decide), fun H3 s3 => ⟨_, rfl, ?_⟩⟩
        show if (!nameB r.name) = true then _ else _
        rw [(nameB_iff _).mpr nm]
        refine iteF ?_
        have an : (kvsOf (rs.take i) us).any (fun kv => decide (kv.1 = Sum.inr r.name)) = false := by
          rw [kvsOf_any lt, decide_eq_false (fresh_name nd hr2)]
        refine ⟨_, rfl, _, rfl, d, none, rfl, .inl ⟨_, Sum.inr r.name, .inl (s3 _ _ h2), rfl, (no_val an).symm⟩, _, rfl, iteF ?_⟩
        have p3 := p2.same s3
        refine ⟨_, rfl, r.b, r.ts, r.ss, rfl, p3.2.1, p3.2.2, ls, fun H4 s4 => ⟨_, rfl, ?_⟩⟩
        show if (!bodyB r.ss) = true then _ else _
        rw [bb]
        refine iteF ?_
        have h4 := s4 _ _ (s3 _ _ h2)
        have bo4 := (bo2.same s3).same s4
        have p4 := p3.same s4
        have s5 := (s2.trans s3).trans s4
        have tk1 : rs.take (i + 1) = rs.take i ++ [r] := by rw [List.take_add_one, hr2]; rfl
        have kl : (kvsOf (rs.take i) us).length < sizeLine := by
          rw [kvsOf_len lt, List.length_take]
          exact Nat.lt_of_lt_of_le (by omega : _ < 17) (by decide)
        have pk : ∀ u : Addr, putK (kvsOf (rs.take i) us) (Sum.inr r.name) (V.ref u) = kvsOf (rs.take (i + 1)) (us ++ [u]) := fun u => by
          unfold putK
          rw [an, tk1, kvsOf_snoc r u lt]; rfl
        have d0 : H d = none := hd
        rcases p4.2.1 with hb | hb
        · refine ⟨_, rfl, r.b, _, rfl, .inl ⟨hb, fun u hu => ?_⟩⟩
          have h5 := (Same.new (o := .tup (r.ts.map V.ref)) hu) _ _ h4
          have bo5 := bo4.same (Same.new (o := .tup (r.ts.map V.ref)) hu)
          refine ⟨_, rfl, _, rfl, d, _, rfl, .inl ⟨_, Sum.inr r.name, h5, rfl, kl, rfl⟩, ?_⟩
          refine ⟨us ++ [u], _, _, _, rfl, by rw [List.length_append, lu]; rfl, by rw [upd_same, pk u], ?_, (s5.trans (Same.new hu)).mut d0⟩
          rw [tk1]
          exact paired_snoc (bo5.put h5) (SqT_put h5 (.of upd_same))
        · refine ⟨_, rfl, r.b, _, rfl, .inr ⟨hb, ?_⟩⟩
          refine ⟨_, rfl, _, rfl, d, _, rfl, .inl ⟨_, Sum.inr r.name, h4, rfl, kl, rfl⟩, ?_⟩
          refine ⟨us ++ [r.b], _, _, _, rfl, by rw [List.length_append, lu]; rfl, by rw [upd_same, pk r.b], ?_, s5.mut d0⟩
          rw [tk1]
          exact paired_snoc (bo4.put h4) (SqT_put h4 hb)
      · rintro σ H1 ⟨us, vl, vn, vb, rfl, lu, h1, bo, s1⟩
        rw [List.length_map, ln, List.take_of_length_le (Nat.le_refl _)] at h1 bo
        have lu : us.length = rs.length := by rw [lu, List.length_map, ln]
        refine ⟨_, rfl, _, .inr (.inr ⟨_, h1, rfl⟩), ?_⟩
        have em : (kvsOf rs us).isEmpty = false := by
          cases hk : kvsOf rs us with
          | nil =>
            have q := kvsOf_len lu
            rw [hk] at q
            exact absurd (List.length_eq_zero_iff.mp q.symm) ne
          | cons _ _ => rfl
        rw [em]
        refine iteF ?_
        exact ⟨_, rfl, k d us H1 h1 bo s1⟩
    · refine .inr ⟨s0.tup ha, ?_⟩
      refine for_it walk_enumST (fun i σ H' => ∃ (us : List Addr) (vl vn vb : Option V), σ = [some (.ref a), some (.ref d), vl, vn, vb] ∧ us.length = i ∧ H' d = some (.dK (kvsOf (rs.take i) us)) ∧ BoA K H' us (rs.take i) ∧ Same H H') ⟨[], none, none, none, rfl, rfl, upd_same, .nil, s0⟩ (fun i σ H' _ q => q.choose_spec.choose_spec.choose_spec.choose_spec.2.2.2.2.tup ha) ?_ ?_
      · rintro i x σ H1 H2 hi ⟨us, vl, vn, vb, rfl, lu, h1, bo, s1⟩ ⟨T, x1, y, rfl, hT, rfl, e1, e2⟩
        obtain rfl : x1 = .int (1 + (i : Nat)) := (Option.some.inj e1).symm
        have e2 : (ps.map V.ref)[i]? = some y := e2
        rw [List.getElem?_map] at e2
        obtain ⟨p, hp, rfl⟩ := Option.map_eq_some_iff.mp e2
        obtain ⟨r, hr2, pa⟩ := paired_get pr hp
        have rm : r ∈ rs := List.mem_of_getElem? hr2
        obtain ⟨nm, bb, ls⟩ := ri r rm
        have ir : i < rs.length := by rw [← ln]; simpa using hi
        have s2 := s1.trans (Same.new (o := .tup [.int (1 + (i : Nat)), .ref p]) hT)
        have p2 := pa.same s2
        have h2 := (Same.new (o := .tup [.int (1 + (i : Nat)), .ref p]) hT) _ _ h1
        have bo2 := bo.same (Same.new (o := .tup [.int (1 + (i : Nat)), .ref p]) hT)
        have lt : us.length = (rs.take i).length := by rw [lu, List.length_take]; omega
        refine ⟨T, _, rfl, .of upd_same, rfl, _, _, rfl, _, _, rfl, p, _, rfl, p2.1, rfl, _, _, rfl, _, _, rfl, rfl, rfl, ?_⟩
        refine ⟨_, rfl, _, _, rfl, rfl, _, rfl, ite2 (fun q => by have := of_decide_eq_true q; omega) fun _ => ?_⟩
        refine ⟨_, rfl, r.name, rfl, Nat.le_trans nm.len (by decide), fun H3 s3 => ⟨_, rfl, ?_⟩⟩
        show if (!nameB r.name) = true then _ else _
        rw [(nameB_iff _).mpr nm]
        refine iteF ?_
        have an : (kvsOf (rs.take i) us).any (fun kv => decide (kv.1 = Sum.inr r.name)) = false := by
          rw [kvsOf_any lt, decide_eq_false (fresh_name nd hr2)]
        refine ⟨_, rfl, _, rfl, d, none, rfl, .inl ⟨_, Sum.inr r.name, .inl (s3 _ _ h2), rfl, (no_val an).symm⟩, _, rfl, iteF ?_⟩
        have p3 := p2.same s3
        refine ⟨_, rfl, r.b, r.ts, r.ss, rfl, p3.2.1, p3.2.2, ls, fun H4 s4 => ⟨_, rfl, ?_⟩⟩
        show if (!bodyB r.ss) = true then _ else _
        rw [bb]
        refine iteF ?_
        have h4 := s4 _ _ (s3 _ _ h2)
        have bo4 := (bo2.same s3).same s4
        have p4 := p3.same s4
        have s5 := (s2.trans s3).trans s4
        have tk1 : rs.take (i + 1) = rs.take i ++ [r] := by rw [List.take_add_one, hr2]; rfl
        have kl : (kvsOf (rs.take i) us).length < sizeLine := by
          rw [kvsOf_len lt, List.length_take]
          exact Nat.lt_of_lt_of_le (by omega : _ < 17) (by decide)
        have pk : ∀ u : Addr, putK (kvsOf (rs.take i) us) (Sum.inr r.name) (V.ref u) = kvsOf (rs.take (i + 1)) (us ++ [u]) := fun u => by
          unfold putK
          rw [an, tk1, kvsOf_snoc r u lt]; rfl
        have d0 : H d = none := hd
        rcases p4.2.1 with hb | hb
        · refine ⟨_, rfl, r.b, _, rfl, .inl ⟨hb, fun u hu => ?_⟩⟩
          have h5 := (Same.new (o := .tup (r.ts.map V.ref)) hu) _ _ h4
          have bo5 := bo4.same (Same.new (o := .tup (r.ts.map V.ref)) hu)
          refine ⟨_, rfl, _, rfl, d, _, rfl, .inl ⟨_, Sum.inr r.name, h5, rfl, kl, rfl⟩, ?_⟩
          refine ⟨us ++ [u], _, _, _, rfl, by rw [List.length_append, lu]; rfl, by rw [upd_same, pk u], ?_, (s5.trans (Same.new hu)).mut d0⟩
          rw [tk1]
          exact paired_snoc (bo5.put h5) (SqT_put h5 (.of upd_same))
        · refine ⟨_, rfl, r.b, _, rfl, .inr ⟨hb, ?_⟩⟩
          refine ⟨_, rfl, _, rfl, d, _, rfl, .inl ⟨_, Sum.inr r.name, h4, rfl, kl, rfl⟩, ?_⟩
          refine ⟨us ++ [r.b], _, _, _, rfl, by rw [List.length_append, lu]; rfl, by rw [upd_same, pk r.b], ?_, s5.mut d0⟩
          rw [tk1]
          exact paired_snoc (bo4.put h4) (SqT_put h4 hb)
      · rintro σ H1 ⟨us, vl, vn, vb, rfl, lu, h1, bo, s1⟩
        rw [List.length_map, ln, List.take_of_length_le (Nat.le_refl _)] at h1 bo
        have lu : us.length = rs.length := by rw [lu, List.length_map, ln]
        refine ⟨_, rfl, _, .inr (.inr ⟨_, h1, rfl⟩), ?_⟩
        have em : (kvsOf rs us).isEmpty = false := by
          cases hk : kvsOf rs us with
          | nil =>
            have q := kvsOf_len lu
            rw [hk] at q
            exact absurd (List.length_eq_zero_iff.mp q.symm) ne
          | cons _ _ => rfl
        rw [em]
        refine iteF ?_
        exact ⟨_, rfl, k d us H1 h1 bo s1⟩
end
end Mf
namespace Mf
open PySem L2
section
variable {P : Program} {w : World} {K : PySem.W.Frag} {mg : Str → Option Value} {base : Heap}

/-! ### _check_callees, of bodies that are right -/
def calling : List Str := ["call", "try"]
def Called (rs : List Pr) : Prop := ∀ r ∈ rs, ∀ s ∈ r.ss, s.1 ∈ calling → s.2 ∈ rs.map Pr.name
def spCallees (K : PySem.W.Frag) : Sp := fun vs H Q _ => ∃ (d : Addr) (us : List Addr) (rs : List Pr), vs = [.ref d] ∧ H d = some (.dK (kvsOf rs us)) ∧ BoA K H us rs ∧ (∀ r ∈ rs, StA H r.ts r.ss) ∧ Called rs ∧ ∀ H', Same H H' → Q .non H'
theorem kvsOf_get : ∀ {rs : List Pr} {us : List Addr} {i : Nat} {k : Key} {x : V}, (kvsOf rs us)[i]? = some (k, x) → ∃ r u, rs[i]? = some r ∧ us[i]? = some u ∧ k = Sum.inr r.name ∧ x = .ref u
  | r :: rs, u :: us, 0, k, x, h => by
    cases h
    exact ⟨r, u, rfl, rfl, rfl, rfl⟩
  | r :: rs, u :: us, i + 1, k, x, h => kvsOf_get (rs := rs) (us := us) (i := i) h
  | [], us, i, k, x, h => by simp [kvsOf] at h
  | r :: rs, [], i, k, x, h => by simp [kvsOf] at h
theorem some_val {kvs : List (Key × V)} {k : Key} (h : kvs.any (fun kv => decide (kv.1 = k)) = true) : ∃ v, valV kvs k = some v := by
  obtain ⟨x, hx, hk⟩ := List.any_eq_true.mp h
  unfold valV
  cases e : kvs.find? fun kv => decide (kv.1 = k) with
  | none => exact absurd hk (List.find?_eq_none.mp e x hx)
  | some y => exact ⟨y.2, rfl⟩
abbrev sCheck_callees : Stmt := top 22
theorem scCheck_callees : FnScope ["bodies", "line", "body", "kind", "name"] ["bodies"] (defScope sCheck_callees) := ⟨rfl, rfl, rfl, by decide +kernel, rfl, by decide +kernel, by decide +kernel⟩
theorem ok_callees {f aC : Addr} {fd : FuncData} (F : Fun K "_check_callees" "_check_callees" sCheck_callees f fd) (mEnum : mg "enumerate" = none) (mg_CALLING_KINDS : mg "CALLING_KINDS" = some (.ref aC)) (qC : ∀ H, SqT K H aC (calling.map V.str)) : FnOk P w K mg base CX0 1 f fd ["bodies"] (spCallees K) := by
  refine F.ok scCheck_callees (fun vs H Q E h => ?_) (fun cdv A outer s H vs Q E hr h => ?_)
  · obtain ⟨d, us, rs, rfl, _⟩ := h
    rfl
  · obtain ⟨d, us, rs, rfl, hd, bo, st, ca, k⟩ := h
    have hu : (A.deeper (PyProof.Rows.envOfC "_check_callees" (defScope sCheck_callees) s.heap.objs.size f cdv)).units + 1 < cLine := by have := hr.units; omega
    refine ⟨_, (pss_one (ps_lock (ps_for PassesOwn.never rfl (pi_enumV (by rfl) mEnum (pv 0) (by decide) (by decide)) (pg_tup rfl (pgs_cons (pg_name (i := 1) scCheck_callees.nd rfl (by first | exact Or.inl rfl | exact Or.inr rfl)) (pgs_cons (pg_name (i := 2) scCheck_callees.nd rfl (by first | exact Or.inl rfl | exact Or.inr rfl)) pgs_nil)))
        (pss_one (ps_for PassesOwn.never rfl (pi_tup (pv 2)) (pg_tup rfl (pgs_cons (pg_name (i := 3) scCheck_callees.nd rfl (by first | exact Or.inl rfl | exact Or.inr rfl)) (pgs_cons (pg_name (i := 4) scCheck_callees.nd rfl (by first | exact Or.inl rfl | exact Or.inr rfl)) pgs_nil)))
          (pss_one (ps_if (PW.pt (pw_and (pt_cmpR (oin K) (pv 3) (pe_glob (v := .ref _) rfl mg_CALLING_KINDS rfl) (by rfl)) (pw_and1 (pt_cmp (pc_dnotin hu (pv 4) (pv 0))))))
            (pss_one ps_never) pss_nil))))))), ?_⟩
    refine ⟨d, _, hd, trivial, fun od => ?_⟩
    have lt : us.length = rs.length := Paired.length bo
    have bf : BoA K (upd H d (.frz od (.dK (kvsOf rs us)))) us rs := bo.put hd
    refine ⟨_, rfl, d, od, _, rfl, upd_same, ?_⟩
    refine for_it walk_enumV (fun i σ H' => ∃ (v1 v2 v3 v4 : Option V), σ = [some (.ref d), v1, v2, v3, v4] ∧ Same (upd H d (.frz od (.dK (kvsOf rs us)))) H') ⟨none, none, none, none, rfl, Same.refl _⟩ (fun i σ H' _ q => q.choose_spec.choose_spec.choose_spec.choose_spec.2 _ _ upd_same) ?_ ?_
    · rintro i x σ H1 H2 hi ⟨v1, v2, v3, v4, rfl, s1⟩ ⟨T, y, ky, rfl, hT, rfl, hx⟩
      obtain ⟨r, u, hr1, hu1, rfl, rfl⟩ := kvsOf_get hx
      obtain ⟨r', hr2, sq⟩ := paired_get bf hu1
      rw [hr1] at hr2
      cases hr2
      have rm : r ∈ rs := List.mem_of_getElem? hr1
      have s2 := s1.trans (Same.new (o := .tup [.int (1 + (i : Nat)), .ref u]) hT)
      refine ⟨T, _, rfl, .of upd_same, rfl, _, _, rfl, _, _, rfl, rfl, ?_⟩
      refine ⟨_, rfl, u, rfl, ⟨_, s2.tup sq⟩, ?_⟩
      refine for_it walk_tup (fun j σ H' => ∃ (v3 v4 : Option V), σ = [some (.ref d), some (.int (1 + (i : Nat))), some (.ref u), v3, v4] ∧ Same (upd H d (.frz od (.dK (kvsOf rs us)))) H') ⟨v3, v4, rfl, s2⟩ (fun j σ H' _ q => q.choose_spec.choose_spec.2.tup sq) ?_ ?_
      · rintro j x σ H3 H4 hj ⟨w3, w4, rfl, s3⟩ ⟨rfl, hx⟩
        rw [List.getElem?_map] at hx
        obtain ⟨t, ht, rfl⟩ := Option.map_eq_some_iff.mp hx
        obtain ⟨sp, hsp, hts⟩ := (st r rm).get ht
        have hts : (upd H d (.frz od (.dK (kvsOf rs us)))) t = some (.tup [.str sp.1, .str sp.2]) := by
          rw [upd_ne (fun e => by rw [e, hd] at hts; simp at hts)]; exact hts
        refine ⟨t, _, rfl, .of (s3 _ _ hts), rfl, _, _, rfl, _, _, rfl, rfl, ?_⟩
        refine ⟨_, rfl, aC, _, rfl, .inr (qC _), rfl, flat_strs calling, _, rfl, ?_⟩
        show if inV (.str sp.1) (calling.map V.str) = true then _ else _
        rw [inV_str]
        refine ite2 (fun q => ?_) fun q => ?_
        · have mm := ca r rm sp (StA.mem hsp) (of_decide_eq_true q)
          obtain ⟨v, hv⟩ := some_val (kvs := kvsOf rs us) (k := Sum.inr sp.2) (by rw [kvsOf_any lt]; exact decide_eq_true mm)
          refine ⟨_, rfl, _, rfl, d, some v, rfl, .inl ⟨_, Sum.inr sp.2, .inr ⟨od, s3 _ _ upd_same⟩, rfl, hv.symm⟩, _, rfl, iteF ?_⟩
          exact ⟨_, _, rfl, s3⟩
        · exact ⟨_, _, rfl, s3⟩
      · rintro σ H3 ⟨w3, w4, rfl, s3⟩
        exact ⟨_, _, w3, w4, rfl, s3⟩
    · rintro σ H1 ⟨v1, v2, v3, v4, rfl, s1⟩
      refine ⟨s1 _ _ upd_same, k _ fun b o hb => ?_⟩
      by_cases e : b = d
      · subst e
        rw [hd] at hb
        cases hb
        exact upd_same
      · rw [upd_ne e]
        refine s1 _ _ ?_
        rw [upd_ne e]; exact hb
end
end Mf
namespace Mf
open PySem L2
/-! ### the class NameSet -/
def flM (t : Addr) : List (Str × V) := putF "members" (.ref t) []
theorem flM_get (t : Addr) : (flM t).lookup ("members" : Str) = some (.ref t) := by
  unfold flM
  rw [lookup_putF, if_pos rfl]
/-- a NameSet stands at p, its members ms -/
def NSet (C : Addr) (H : Hp) (p : Addr) (ms : List Str) : Prop := ∃ dx t, H p = some (.ins C dx (flM t)) ∧ H t = some (.tup (ms.map V.str)) ∧ Up ms ∧ ms.length < 4000 ∧ ∀ z ∈ ms, PyData.strOk z = true
theorem NSet.same {C : Addr} {H H' : Hp} {p : Addr} {ms : List Str} (h : NSet C H p ms) (s : Same H H') : NSet C H' p ms := let ⟨dx, t, a, b, c⟩ := h; ⟨dx, t, s _ _ a, s _ _ b, c⟩
theorem NSet.kp {C a : Addr} {H H' : Hp} {p : Addr} {ms : List Str} {n : Nat} (h : NSet C H p ms) (s : Kp a H H') (S : Src H a n) : NSet C H' p ms :=
  let ⟨dx, t, x, y, c⟩ := h
  let ⟨_, _, _, e, _⟩ := S
  ⟨dx, t, s _ _ (ne_of x e (by intro z; cases z)) x, s _ _ (ne_of y e (by intro z; cases z)) y, c⟩
structure NsC (K : PySem.W.Frag) (mg : Str → Option Value) (C : Addr) : Prop where
  ins : C8.InsC K C
  nM : NoAttr K C "members"
  mgC : mg "NameSet" = some (.ref C)
  kL : PySem.W.kitOne K (.type "list") (.ref C) = some false
  kT : PySem.W.kitOne K (.type "tuple") (.ref C) = some false
  bT : PySem.W.notFirst K C (.type "tuple") = true
  bL : PySem.W.notFirst K C (.type "list") = true
  mIsi : mg "isinstance" = none
  mTuple : mg "tuple" = none
  mSorted : mg "sorted" = none
  mSet : mg "set" = none
  mAll : mg "all" = none
  mLen : mg "len" = none
/-- what NameSet(..) takes -/
inductive ArgS (K : PySem.W.Frag) (C : Addr) (H : Hp) : V → List Str → Prop
  | lst {a : Addr} {xs : List Str} (e : H a = some (.lst (xs.map V.str))) : ArgS K C H (.ref a) xs
  | tup {a : Addr} {xs : List Str} (e : H a = some (.tup (xs.map V.str))) : ArgS K C H (.ref a) xs
  | emp {a : Addr} {o : Obj} (e : K.lookup a = some o) (c : o.cls = .type "tuple") (s : ∀ H, SqT K H a []) : ArgS K C H (.ref a) []
  | own {a : Addr} {xs : List Str} (e : NSet C H a xs) : ArgS K C H (.ref a) xs
section
variable {P : Program} {w : World} {K : PySem.W.Frag} {mg : Str → Option Value} {base : Heap} {C : Addr}
theorem NsC.isi {H : Hp} {p : Addr} {dx : Addr} {fs : List (Str × V)} (T : NsC K mg C) (h : H p = some (.ins C dx fs)) : TyX K H (.ref p) (.ref C) := .base (.ins h T.ins.cl T.ins.ha T.ins.hn T.ins.htk T.ins.hm)

def spNsInit (K : PySem.W.Frag) (C : Addr) : Sp := fun vs H Q _ => ∃ (p dx : Addr) (x : V) (xs : List Str), vs = [.ref p, x] ∧ H p = some (.ins C dx []) ∧ ArgS K C H x xs ∧ xs.length < 4000 ∧
  ∀ t ms H', Up ms → (∀ z, z ∈ ms ↔ z ∈ xs) → H' p = some (.ins C dx (flM t)) → H' t = some (.tup (ms.map V.str)) → (∀ b o, b ≠ p → H b = some o → H' b = some o) → Q .non H'
abbrev sNameSetInit : Stmt := inClass (top 6) 0
theorem scNameSetInit : FnScope ["self", "names"] ["self", "names"] (defScope sNameSetInit) := ⟨rfl, rfl, rfl, by decide +kernel, rfl, by decide +kernel, by decide +kernel⟩
theorem ok_nsInit {f : Addr} {fd : FuncData} {dvs : List V} {kws : List (Str × V)} {ar : Arguments} (F : FunD K "__init__" "NameSet.__init__" ar (defBody sNameSetInit) (defScope sNameSetInit) dvs kws f fd) (T : NsC K mg C) : FnOk P w K mg base CX0 1 f fd ["self", "names"] (spNsInit K C) := by
  refine F.ok scNameSetInit (fun vs H Q E h => ?_) (fun cdv A outer s H vs Q E hr h => ?_)
  · obtain ⟨p, dx, x, xs, rfl, _⟩ := h
    rfl
  · obtain ⟨p, dx, x, xs, rfl, hp, ax, few, k⟩ := h
    have mIsi := T.mIsi; have mg_NameSet := T.mgC; have mTuple := T.mTuple; have mSorted := T.mSorted; have mSet := T.mSet
    refine ⟨_, (C8.pss_cut (ps_if (pt_val (pe_callB (k_isi K) (by rfl) mIsi (by decide +kernel) (pa_cons (pv 1) (pa_cons (pe_glob (v := .ref _) rfl mg_NameSet rfl) pa_nil))))
        (pss_one (ps_set (i := 1) scNameSetInit.nd rfl (by first | exact Or.inl rfl | exact Or.inr rfl) (fldK K (pv 1)))) pss_nil)
      (pss_one (ps_fld (pv 0) (pe_callTy (k_tuple K) (by rfl) mTuple (by decide +kernel) (pa_cons (pe_callB (cr_sortedX rfl) (by rfl) mSorted (by decide +kernel) (pa_cons (pe_callTy (cr_setS rfl) (by rfl) mSet (by decide +kernel) (pa_cons (pv 1) pa_nil)) pa_nil)) pa_nil)) rfl))), ?_⟩
    refine ⟨fun σ' H' => H' = H ∧ ∃ c, σ' = [some (.ref p), some (.ref c)] ∧ (SqL K H c (xs.map V.str) ∨ SqT K H c (xs.map V.str)), ?_, ?_⟩
    · cases ax with
      | lst e => exact ⟨_, rfl, _, _, _, _, false, rfl, .own C, .base (.lst e), T.kL, _, rfl, iteF ⟨rfl, _, rfl, .inl (.of e)⟩⟩
      | tup e => exact ⟨_, rfl, _, _, _, _, false, rfl, .own C, .base (.tup e), T.kT, _, rfl, iteF ⟨rfl, _, rfl, .inr (.of e)⟩⟩
      | emp e c s => exact ⟨_, rfl, _, _, _, _, false, rfl, .own C, .kTuple e c, T.kT, _, rfl, iteF ⟨rfl, _, rfl, .inr (s H)⟩⟩
      | own e =>
        obtain ⟨dy, t, h1, h2, _⟩ := e
        exact ⟨_, rfl, _, _, _, _, true, rfl, .own C, T.isi h1, T.ins.me, _, rfl, iteT ⟨_, rfl, _, C, dy, _, _, rfl, h1, T.ins.cl, T.nM, flM_get t, rfl, t, rfl, .inr (.of h2)⟩⟩
    · rintro σ' H' ⟨rfl, c, rfl, hc⟩
      refine ⟨_, rfl, c, xs, rfl, hc, few, fun q l nq nd m => ?_⟩
      refine ⟨q, l, rfl, upd_same, fun ys r so m2 len nr => ?_⟩
      refine ⟨r, _, rfl, .inl ⟨.of upd_same, fun t nt => ?_⟩⟩
      have up : Up ys := up_of so (nodup_len nd (fun z hz => (m2 z).mpr hz) len)
      have h1 : Same H' (upd (upd (upd H' q (.ext fun h => TxR P w h q l)) r (.lst (ys.map V.str))) t (.tup (ys.map V.str))) := ((Same.new nq).trans (Same.new nr)).trans (Same.new nt)
      have ht : t ≠ p := ne_none nt ((Same.new nr) _ _ ((Same.new nq) _ _ hp))
      refine ⟨_, rfl, p, C, dx, [], rfl, h1 _ _ hp, T.ins.cl, T.nM, (by show 0 < 1000; decide), ?_⟩
      refine k t ys _ up (fun z => (m2 z).trans (m z)) upd_same (by rw [upd_ne ht, upd_same]) fun b o nb e => ?_
      rw [upd_ne nb]
      exact h1 _ _ e
theorem ArgS.same {H H' : Hp} {x : V} {xs : List Str} (h : ArgS K C H x xs) (s : Same H H') : ArgS K C H' x xs := by
  cases h with
  | lst e => exact .lst (s _ _ e)
  | tup e => exact .tup (s _ _ e)
  | emp e c q => exact .emp e c q
  | own e => exact .own (e.same s)
/-- NameSet(x): a new one -/
theorem make_ns {H : Hp} {x : V} {xs : List Str} {Q : VK} {E : XK} (ax : ArgS K C H x xs) (few : xs.length < 4000) (ok : ∀ z ∈ xs, PyData.strOk z = true)
    (k : ∀ p ms H', NSet C H' p ms → (∀ z, z ∈ ms ↔ z ∈ xs) → H p = none → Same H H' → Q (.ref p) H') :
    ∀ p dx, H p = none → H dx = none → dx ≠ p → spNsInit K C [.ref p, x] (upd (upd H dx (.own p)) p (.ins C dx [])) (fun v H2 => v = .non ∧ Q (.ref p) H2) E := by
  intro p dx hp hd ne
  have s1 : Same H (upd (upd H dx (.own p)) p (.ins C dx [])) := Same.mut (Same.new hd) hp
  refine ⟨p, dx, x, xs, rfl, upd_same, ax.same s1, few, fun t ms H' up m h1 h2 kp => ⟨rfl, k p ms H' ⟨dx, t, h1, h2, up, ?_, fun z hz => ok z ((m z).mp hz)⟩ m hp fun b o e => kp b o (ne_of_none e hp) (s1 _ _ e)⟩⟩
  exact Nat.lt_of_le_of_lt (nodup_le up.nd fun z hz => (m z).mp hz) few
theorem ns_grow {H : Hp} {p dx : Addr} (hp : H p = none) (hd : H dx = none) : Same H (upd (upd H dx (.own p)) p (.ins C dx [])) := Same.mut (Same.new hd) hp
theorem ns_after {H H' : Hp} {p dx t : Addr} {xs ms : List Str} (few : xs.length < 4000) (ok : ∀ z ∈ xs, PyData.strOk z = true) (hp : H p = none) (hd : H dx = none) (up : Up ms) (m : ∀ z, z ∈ ms ↔ z ∈ xs)
    (h1 : H' p = some (.ins C dx (flM t))) (h2 : H' t = some (.tup (ms.map V.str))) (kp : ∀ b o, b ≠ p → (upd (upd H dx (.own p)) p (.ins C dx [])) b = some o → H' b = some o) : NSet C H' p ms ∧ Same H H' :=
  ⟨⟨dx, t, h1, h2, up, Nat.lt_of_le_of_lt (nodup_le up.nd fun z hz => (m z).mp hz) few, fun z hz => ok z ((m z).mp hz)⟩, fun b o e => kp b o (ne_of_none e hp) ((ns_grow hp hd) b o e)⟩
end
end Mf
namespace Mf
open PySem L2
section
variable {P : Program} {w : World} {K : PySem.W.Frag} {mg : Str → Option Value} {base : Heap} {C : Addr}
/-! ### _places -/
abbrev CalN (P : Program) (w : World) (K : PySem.W.Frag) (mg : Str → Option Value) (base : Heap) (C : Addr) (dvs : List V) : Prop := CalC P w K mg base CX0 1 "NameSet" C ["self", "names"] (spNsInit K C) dvs
/-- the places that steps read, in order, as often as they are read -/
def readsIn (ss : List Step) : List Str := (ss.filter fun s => decide (s.1 = ("read" : Str))).map (·.2)
def readsOf (rs : List Pr) : List Str := (rs.map fun r => readsIn r.ss).flatten
theorem readsOf_snoc {rs : List Pr} {r : Pr} : readsOf (rs ++ [r]) = readsOf rs ++ readsIn r.ss := by unfold readsOf; simp
theorem readsIn_snoc {ss : List Step} {s : Step} : readsIn (ss ++ [s]) = readsIn ss ++ (if s.1 = ("read" : Str) then [s.2] else []) := by
  unfold readsIn
  by_cases e : s.1 = ("read" : Str) <;> simp [List.filter_append, e]
theorem readsIn_len (ss : List Step) : (readsIn ss).length ≤ ss.length := by
  unfold readsIn
  rw [List.length_map]
  exact List.length_filter_le _ _
theorem readsOf_len {rs : List Pr} (h : ∀ r ∈ rs, r.ss.length ≤ 12) : (readsOf rs).length ≤ rs.length * 12 := by
  induction rs with
  | nil => exact Nat.zero_le _
  | cons r rs ih =>
    have a := ih fun x hx => h x (List.mem_cons_of_mem _ hx)
    have b := h r List.mem_cons_self
    have c := readsIn_len r.ss
    show (readsIn r.ss ++ readsOf rs).length ≤ _
    rw [List.length_append, List.length_cons]
    omega
theorem bodyB_len {ss : List Step} (h : bodyB ss = true) : ss.length ≤ 12 := of_decide_eq_true (Bool.and_eq_true_iff.mp h).1
theorem bodyB_st {ss : List Step} (h : bodyB ss = true) : ∀ s ∈ ss, stepB s.1 s.2 = true := List.all_eq_true.mp (Bool.and_eq_true_iff.mp h).2
theorem stepB_name {s : Step} (h : stepB s.1 s.2 = true) : IsName s.2 := (nameB_iff _).mp (Bool.and_eq_true_iff.mp h).2
theorem stepB_kind {s : Step} (h : stepB s.1 s.2 = true) : s.1 ∈ kinds := of_decide_eq_true (Bool.and_eq_true_iff.mp h).1
theorem kinds_ok : ∀ z ∈ kinds, PyData.strOk z = true := by decide +kernel
theorem stepB_ok {s : Step} (h : stepB s.1 s.2 = true) : StOk s := ⟨kinds_ok _ (stepB_kind h), (stepB_name h).ok⟩
theorem readsOf_ok {rs : List Pr} (h : ∀ r ∈ rs, Right r) : ∀ z ∈ readsOf rs, IsName z := fun z hz => by
  obtain ⟨l, hl, hz⟩ := List.mem_flatten.mp hz
  obtain ⟨r, hr, rfl⟩ := List.mem_map.mp hl
  obtain ⟨s, hs, rfl⟩ := List.mem_map.mp hz
  exact stepB_name (bodyB_st (h r hr).2.1 s (List.mem_filter.mp hs).1)
def spPlaces (K : PySem.W.Frag) : Sp := fun vs H Q _ => ∃ (d : Addr) (us : List Addr) (rs : List Pr), vs = [.ref d] ∧ H d = some (.dK (kvsOf rs us)) ∧ BoA K H us rs ∧ (∀ r ∈ rs, StA H r.ts r.ss) ∧ rs.length ≤ 16 ∧ (∀ r ∈ rs, Right r) ∧
  ∀ t pl H', Up pl → (∀ z, z ∈ pl ↔ z ∈ readsOf rs) → H' t = some (.tup (pl.map V.str)) → Same H H' → Q (.ref t) H'
abbrev sPlaces : Stmt := top 23
theorem scPlaces : FnScope ["bodies", "body", "kind", "name"] ["bodies"] (defScope sPlaces) := ⟨rfl, rfl, rfl, by decide +kernel, rfl, by decide +kernel, by decide +kernel⟩
theorem ok_places {f : Addr} {fd : FuncData} (F : Fun K "_places" "_places" sPlaces f fd) (T : NsC K mg C) (mk1 : CalN P w K mg base C []) : FnOk P w K mg base CX0 3 f fd ["bodies"] (spPlaces K) := by
  refine F.ok scPlaces (fun vs H Q E h => ?_) (fun cdv A outer s H vs Q E hr h => ?_)
  · obtain ⟨d, us, rs, rfl, _⟩ := h
    rfl
  · obtain ⟨d, us, rs, rfl, hd, bo, st, few, ri, k⟩ := h
    refine ⟨_, (pss_one (ps_ret (fldK K (pe_mkc mk1 hr pass0 (pa_cons (pe_lock (pe_lc2 (own := [("body", 1), ("kind", 2), ("name", 3)]) (vs1 := [2, 3]) (g := (gName 1)) (g1 := (gTup K 2 (gCons (gName 2) (gCons (gName 3) gNil)))) (tt := tYes) (tt1 := _) rfl scPlaces.nd (pi_values (pv 0)) (blkOk_by (own := [("body", 1), ("kind", 2), ("name", 3)]) (N := ["bodies", "body", "kind", "name"]) (sc := defScope sPlaces) (by decide +kernel)) (by decide) (fun _ _ _ _ _ => (pg_name (i := 1) scPlaces.nd rfl (by first | exact Or.inl rfl | exact Or.inr rfl))) (fun _ _ _ _ _ => pts_nil) (fun _ _ _ _ _ => (piT K (pv 1))) (fun _ _ _ _ _ => (pg_tup rfl (pgs_cons (pg_name (i := 2) scPlaces.nd rfl (by first | exact Or.inl rfl | exact Or.inr rfl)) (pgs_cons (pg_name (i := 3) scPlaces.nd rfl (by first | exact Or.inl rfl | exact Or.inr rfl)) pgs_nil)))) (fun _ _ _ _ _ => pts_one (pt_cmpR op_eq (pv 2) pe_str (nomark _))) (fun _ _ _ _ _ => (pv 3)))) pa_nil))))), ?_⟩
    refine ⟨d, _, hd, trivial, fun od => ?_⟩
    have lt : us.length = rs.length := Paired.length bo
    have bf : BoA K (upd H d (.frz od (.dK (kvsOf rs us)))) us rs := bo.put hd
    have l12 : ∀ r ∈ rs, r.ss.length ≤ 12 := fun r hr => bodyB_len (ri r hr).2.1
    have fewR : ∀ l : List Pr, (∀ r ∈ l, r ∈ rs) → l.length ≤ 16 → (readsOf l).length ≤ 192 := fun l h h2 => by
      have := readsOf_len (rs := l) fun r hr => l12 r (h r hr)
      omega
    refine ⟨_, rfl, d, od, _, rfl, upd_same, fun D hD => ?_⟩
    refine it_any walk_values (fun i H' => Same (upd H d (.frz od (.dK (kvsOf rs us)))) H' ∧ H' D = some (.lst ((readsOf (rs.take i)).map V.str))) ⟨Same.new hD, upd_same⟩ (fun i H' _ q => q.1 _ _ upd_same) ?_ ?_
    · rintro i x H1 _ hi ⟨s1, h1⟩ ⟨rfl, ky, hx⟩
      obtain ⟨r, u, hr1, hu1, rfl, rfl⟩ := kvsOf_get hx
      obtain ⟨r', hr2, sq⟩ := paired_get bf hu1
      rw [hr1] at hr2
      cases hr2
      have rm : r ∈ rs := List.mem_of_getElem? hr1
      have ir : i < rs.length := by rw [kvsOf_len lt] at hi; exact hi
      have tk : rs.take (i + 1) = rs.take i ++ [r] := by rw [List.take_add_one, hr1]; rfl
      refine ⟨rfl, yes_then ?_⟩
      refine ⟨_, rfl, u, rfl, ⟨_, s1.tup sq⟩, ?_⟩
      have ln : r.ts.length = r.ss.length := Paired.length (st r rm)
      refine it_any walk_tup (fun j H' => Same (upd H d (.frz od (.dK (kvsOf rs us)))) H' ∧ H' D = some (.lst ((readsOf (rs.take i) ++ readsIn (r.ss.take j)).map V.str))) ⟨s1, by rw [h1]; simp [readsIn]⟩ (fun j H' _ q => q.1.tup sq) ?_ ?_
      · rintro j x H3 _ hj ⟨s3, h3⟩ ⟨rfl, hx⟩
        rw [List.getElem?_map] at hx
        obtain ⟨t, ht, rfl⟩ := Option.map_eq_some_iff.mp hx
        obtain ⟨sp, hsp, hts⟩ := (st r rm).get ht
        have hts : (upd H d (.frz od (.dK (kvsOf rs us)))) t = some (.tup [.str sp.1, .str sp.2]) := by
          rw [upd_ne (fun e => by rw [e, hd] at hts; simp at hts)]; exact hts
        have tk1 : r.ss.take (j + 1) = r.ss.take j ++ [sp] := by rw [List.take_add_one, hsp]; rfl
        refine ⟨t, _, rfl, .of (s3 _ _ hts), rfl, _, _, rfl, _, _, rfl, rfl, rfl, _, rfl, rfl, _, rfl, ite2 (fun q => ?_) fun q => ?_⟩
        · have q : sp.1 = ("read" : Str) := by have := of_decide_eq_true q; exact V.str.inj this
          refine ⟨_, rfl, _, h3, ?_, s3.mut hD, ?_⟩
          · rw [List.length_map, List.length_append]
            have a := fewR (rs.take i) (fun r hr => List.mem_of_mem_take hr) (by rw [List.length_take]; omega)
            have b := readsIn_len (r.ss.take j)
            rw [List.length_take] at b
            have c := l12 r rm
            exact Nat.lt_of_le_of_lt (by omega : _ ≤ 204) (by decide)
          · rw [upd_same, tk1, readsIn_snoc, if_pos q, ← List.append_assoc, List.map_append (l₂ := [sp.2])]
            rfl
        · have q : ¬ sp.1 = ("read" : Str) := fun e => q (decide_eq_true (by rw [e]))
          refine ⟨s3, ?_⟩
          rw [tk1, readsIn_snoc, if_neg q, List.append_nil]
          exact h3
      · rintro H3 ⟨s3, h3⟩
        refine ⟨s3, ?_⟩
        rw [List.length_map, ln, List.take_of_length_le (Nat.le_refl _)] at h3
        rw [tk, readsOf_snoc]
        exact h3
    · rintro H1 ⟨s1, h1⟩
      rw [kvsOf_len lt, List.take_of_length_le (Nat.le_refl _)] at h1
      refine ⟨s1 _ _ upd_same, ?_⟩
      have s2 : Same H (upd H1 d (.dK (kvsOf rs us))) := fun b o hb => by
        by_cases e : b = d
        · subst e
          rw [hd] at hb
          cases hb
          exact upd_same
        · rw [upd_ne e]
          refine s1 _ _ ?_
          rw [upd_ne e]; exact hb
      have dD : D ≠ d := fun e => by
        rw [e, s1 _ _ upd_same] at h1
        cases h1
      have h2 : (upd H1 d (.dK (kvsOf rs us))) D = some (.lst ((readsOf rs).map V.str)) := by rw [upd_ne dD]; exact h1
      generalize upd H1 d (.dK (kvsOf rs us)) = H2 at s2 h2
      intro L dxL nL hdL _
      have fewL : (readsOf rs).length < 4000 := by have := fewR rs (fun _ h => h) few; omega
      have okL : ∀ z ∈ readsOf rs, PyData.strOk z = true := fun z hz => (readsOf_ok ri z hz).ok
      refine ⟨L, dxL, _, _, rfl, upd_same, ArgS.same (.lst h2) (ns_grow nL hdL), fewL, fun tL ms H9 upL mL g1L g2L kpL => ⟨rfl, ?_⟩⟩
      obtain ⟨hL, e2⟩ := ns_after fewL okL nL hdL upL mL g1L g2L kpL
      exact ⟨L, C, dxL, _, _, rfl, g1L, T.ins.cl, T.nM, flM_get tL, k tL ms H9 upL mL g2L (s2.trans e2)⟩
end
end Mf
namespace Mf
open PySem L2
/-! ### the class Program -/
def flP (d n q : Addr) : List (Str × V) := putF "places" (.ref q) (putF "names" (.ref n) (putF "_bodies" (.ref d) []))
theorem flP_b (d n q : Addr) : (flP d n q).lookup ("_bodies" : Str) = some (.ref d) := by
  unfold flP
  rw [lookup_putF, if_neg (by decide), lookup_putF, if_neg (by decide), lookup_putF, if_pos rfl]
theorem flP_n (d n q : Addr) : (flP d n q).lookup ("names" : Str) = some (.ref n) := by
  unfold flP
  rw [lookup_putF, if_neg (by decide), lookup_putF, if_pos rfl]
theorem flP_q (d n q : Addr) : (flP d n q).lookup ("places" : Str) = some (.ref q) := by
  unfold flP
  rw [lookup_putF, if_pos rfl]
/-- a Program stands at p -/
structure PrgA (K : PySem.W.Frag) (Cp : Addr) (H : Hp) (p dx d n q : Addr) (us : List Addr) (rs : List Pr) (pl : List Str) : Prop where
  o : H p = some (.ins Cp dx (flP d n q))
  b : H d = some (.dK (kvsOf rs us))
  bo : BoA K H us rs
  st : ∀ r ∈ rs, StA H r.ts r.ss
  n : NmT H n ((rs.map Pr.name).map V.str)
  q : H q = some (.tup (pl.map V.str))
def pls (rs : List Pr) : List Pc := rs.map fun r => (r.name, r.ss)
theorem pls_names (rs : List Pr) : (pls rs).map (·.1) = rs.map Pr.name := by unfold pls; rw [List.map_map]; rfl
/-- the procedures are right -/
structure RightP (rs : List Pr) : Prop where
  few : rs.length ≤ 16
  ne : rs ≠ []
  nd : (rs.map Pr.name).Nodup
  ri : ∀ r ∈ rs, Right r
  ca : Called rs
def Prg (K : PySem.W.Frag) (Cp : Addr) (H : Hp) (p : Addr) (rs : List Pr) : Prop := ∃ dx d n q us pl, PrgA K Cp H p dx d n q us rs pl ∧ RightP rs ∧ Up pl ∧ ∀ z, z ∈ pl ↔ z ∈ readsOf rs
theorem StA.sameN {H H' : Hp} {ts : List Addr} {ss : List (Str × Str)} (x : StA H ts ss) (h : SameN H H') : StA H' ts ss := by
  induction x with
  | nil => exact .nil
  | cons a _ ih => exact .cons (h _ _ noL_tup a) ih
theorem BoA.sameN {K : PySem.W.Frag} {H H' : Hp} {us : List Addr} {rs : List Pr} (x : BoA K H us rs) (h : SameN H H') : BoA K H' us rs := by
  induction x with
  | nil => exact .nil
  | cons a _ ih => exact .cons (h.tup a) ih
theorem noL_frz {o : Obj} {u : HO} : NoL (.frz o u) := fun _ h => nomatch h
theorem PrgA.sameN {K : PySem.W.Frag} {Cp : Addr} {H H' : Hp} {p dx d n q : Addr} {us : List Addr} {rs : List Pr} {pl : List Str} (x : PrgA K Cp H p dx d n q us rs pl) (h : SameN H H') : PrgA K Cp H' p dx d n q us rs pl :=
  ⟨h _ _ noL_ins x.o, h _ _ noL_dK x.b, x.bo.sameN h, fun r hr => (x.st r hr).sameN h, x.n.mv fun _ e => h _ _ noL_frz e, h _ _ noL_tup x.q⟩
theorem Prg.sameN {K : PySem.W.Frag} {Cp : Addr} {H H' : Hp} {p : Addr} {rs : List Pr} (x : Prg K Cp H p rs) (h : SameN H H') : Prg K Cp H' p rs :=
  let ⟨dx, d, n, q, us, pl, a, b⟩ := x
  ⟨dx, d, n, q, us, pl, a.sameN h, b⟩
theorem Prg.same {K : PySem.W.Frag} {Cp : Addr} {H H' : Hp} {p : Addr} {rs : List Pr} (x : Prg K Cp H p rs) (h : Same H H') : Prg K Cp H' p rs := x.sameN (.of h)
structure PgC (K : PySem.W.Frag) (mg : Str → Option Value) (C : Addr) : Prop where
  ins : C8.InsC K C
  nB : NoAttr K C "_bodies"
  nN : NoAttr K C "names"
  nQ : NoAttr K C "places"
  mgC : mg "Program" = some (.ref C)
  kL : PySem.W.kitOne K (.type "list") (.ref C) = some false
  kT : PySem.W.kitOne K (.type "tuple") (.ref C) = some false
  bT : PySem.W.notFirst K C (.type "tuple") = true
  bL : PySem.W.notFirst K C (.type "list") = true
  mIsi : mg "isinstance" = none
  mTuple : mg "tuple" = none
  mLen : mg "len" = none
section
variable {P : Program} {w : World} {K : PySem.W.Frag} {mg : Str → Option Value} {base : Heap} {Cp C : Addr}
theorem PgC.isi {H : Hp} {p : Addr} {dx : Addr} {fs : List (Str × V)} (T : PgC K mg Cp) (h : H p = some (.ins Cp dx fs)) : TyX K H (.ref p) (.ref Cp) := .base (.ins h T.ins.cl T.ins.ha T.ins.hn T.ins.htk T.ins.hm)
def spPgInit (K : PySem.W.Frag) (Cp : Addr) : Sp := fun vs H Q _ => ∃ (p dx a : Addr) (ps : List Addr) (rs : List Pr), vs = [.ref p, .ref a] ∧ H p = some (.ins Cp dx []) ∧ (SqL K H a (ps.map V.ref) ∨ SqT K H a (ps.map V.ref)) ∧ Paired (PrA K H) ps rs ∧ RightP rs ∧
  ∀ H', Prg K Cp H' p rs → (∀ b o, b ≠ p → H b = some o → H' b = some o) → Q .non H'
abbrev sProgramInit : Stmt := inClass (top 18) 0
theorem scProgramInit : FnScope ["self", "procedures"] ["self", "procedures"] (defScope sProgramInit) := ⟨rfl, rfl, rfl, by decide +kernel, rfl, by decide +kernel, by decide +kernel⟩
theorem kvs_names : ∀ {rs : List Pr} {us : List Addr}, us.length = rs.length → ((kvsOf rs us).map fun kv => kV kv.1) = (rs.map Pr.name).map V.str
  | [], [], _ => rfl
  | a :: rs, b :: us, h => by
    show kV (Sum.inr a.name) :: (kvsOf rs us).map (fun kv => kV kv.1) = _
    rw [kvs_names (by simpa using h)]; rfl
  | [], b :: us, h => by simp at h
  | a :: rs, [], h => by simp at h
theorem PrA.sta {H : Hp} {ps : List Addr} {rs : List Pr} (h : Paired (PrA K H) ps rs) : ∀ r ∈ rs, StA H r.ts r.ss := by
  induction h with
  | nil => intro r hr; cases hr
  | cons a _ ih =>
    intro r hr
    rcases List.mem_cons.mp hr with rfl | hr
    · exact a.2.2
    · exact ih r hr
theorem paired_same {α β : Type} {R S : α → β → Prop} {xs : List α} {ys : List β} (r : Paired R xs ys) (h : ∀ a b, R a b → S a b) : Paired S xs ys := by
  induction r with
  | nil => exact .nil
  | cons a _ ih => exact .cons (h _ _ a) ih
/-- all but p, which is an instance, stays: what is not an instance -/
theorem but_tup {H H' : Hp} {p t : Addr} {o : HO} {xs : List V} (b : ∀ b o, b ≠ p → H b = some o → H' b = some o) (hp : H p = some o) (n : ∀ ys, o ≠ .tup ys ∧ ∀ q u, o ≠ .frz q u) (h : SqT K H t xs) : SqT K H' t xs := by
  rcases h with (h | ⟨q, h⟩) | h
  · exact .inl (.inl (b _ _ (fun e => by rw [e, hp] at h; exact (n xs).1 (Option.some.inj h)) h))
  · exact .inl (.inr ⟨q, b _ _ (fun e => by rw [e, hp] at h; exact (n xs).2 _ _ (Option.some.inj h)) h⟩)
  · exact .inr h
theorem ok_pgInit {f : Addr} {fd : FuncData} (F : Fun K "__init__" "Program.__init__" sProgramInit f fd) (T : PgC K mg Cp) (c__checked_bodies : Cal P w K mg base CX0 4 "_checked_bodies" ["procedures"] (spChecked K)) (c__check_callees : Cal P w K mg base CX0 1 "_check_callees" ["bodies"] (spCallees K))
    (c__places : Cal P w K mg base CX0 3 "_places" ["bodies"] (spPlaces K)) : FnOk P w K mg base CX0 5 f fd ["self", "procedures"] (spPgInit K Cp) := by
  refine F.ok scProgramInit (fun vs H Q E h => ?_) (fun cdv A outer s H vs Q E hr h => ?_)
  · obtain ⟨p, dx, a, ps, rs, rfl, _⟩ := h
    rfl
  · obtain ⟨p, dx, a, ps, rs, rfl, hp, ha, pr, R, k⟩ := h
    have mTuple := T.mTuple
    have hr__checked_bodies := hr; have hr__check_callees := hr.mono (by decide : 1 ≤ 4); have hr__places := hr.mono (by decide : 3 ≤ 4)
    refine ⟨_, (pss_cons (ps_fld (pv 0) (pe_cal c__checked_bodies hr__checked_bodies pass0 (pa_cons (pv 1) pa_nil)) rfl)
      (pss_cons (ps_expr (pe_cal c__check_callees hr__check_callees pass0 (pa_cons (fldK K (pv 0)) pa_nil)))
      (pss_cons (ps_fld (pv 0) (pe_callTy (call_tuple_dKF rfl) (by rfl) mTuple (by decide +kernel) (pa_cons (fldK K (pv 0)) pa_nil)) rfl)
      (pss_one (ps_fld (pv 0) (pe_cal c__places hr__places pass0 (pa_cons (fldK K (pv 0)) pa_nil)) rfl))))), ?_⟩
    refine ⟨_, rfl, a, ps, rs, rfl, ha, pr, R.few, R.ne, R.nd, R.ri, fun d us H1 hd bo s1 => ?_⟩
    have st1 : ∀ r ∈ rs, StA H1 r.ts r.ss := fun r hr => (PrA.sta pr r hr).same s1
    have hp1 := s1 _ _ hp
    refine ⟨_, rfl, p, Cp, dx, [], rfl, hp1, T.ins.cl, T.nB, (by show 0 < 1000; decide), ?_⟩
    -- behind self._bodies
    have b2 : ∀ b o, b ≠ p → H1 b = some o → (upd H1 p (.ins Cp dx (putF "_bodies" (.ref d) []))) b = some o := fun b o n e => by rw [upd_ne n]; exact e
    have hp2 : (upd H1 p (.ins Cp dx (putF "_bodies" (.ref d) []))) p = some (.ins Cp dx (putF "_bodies" (.ref d) [])) := upd_same
    have hd2 := b2 _ _ (ne_of hd hp1 (by intro z; cases z)) hd
    have st2 : ∀ r ∈ rs, StA (upd H1 p (.ins Cp dx (putF "_bodies" (.ref d) []))) r.ts r.ss := fun r hr => paired_same (st1 r hr) fun t s ht => b2 _ _ (ne_of ht hp1 (by intro z; cases z)) ht
    have bo2 : BoA K (upd H1 p (.ins Cp dx (putF "_bodies" (.ref d) []))) us rs := paired_same bo fun u r hu => but_tup b2 hp1 (fun _ => ⟨(by intro z; cases z), fun _ _ => (by intro z; cases z)⟩) hu
    generalize upd H1 p (.ins Cp dx (putF "_bodies" (.ref d) [])) = H2 at b2 hp2 hd2 st2 bo2
    have lb : (putF "_bodies" (.ref d) [] : List (Str × V)).lookup ("_bodies" : Str) = some (.ref d) := by rw [lookup_putF, if_pos rfl]
    refine ⟨_, rfl, p, Cp, dx, _, _, rfl, hp2, T.ins.cl, T.nB, lb, d, us, rs, rfl, hd2, bo2, st2, R.ca, fun H3 s3 => ?_⟩
    have hd3 := s3 _ _ hd2
    have hp3 := s3 _ _ hp2
    refine ⟨_, rfl, p, Cp, dx, _, _, rfl, hp3, T.ins.cl, T.nB, lb, d, _, rfl, hd3, fun n on hn on1 on2 => ?_⟩
    have hp4 := (Same.new (o := .frz on (.tup ((kvsOf rs us).map fun kv => kV kv.1))) hn) _ _ hp3
    refine ⟨_, rfl, p, Cp, dx, _, rfl, hp4, T.ins.cl, T.nN, (by show 1 < 1000; decide), ?_⟩
    have lu : us.length = rs.length := Paired.length bo
    rw [kvs_names lu] at hp4 ⊢
    have s4 : Same H3 (upd H3 n (.frz on (.tup ((rs.map Pr.name).map V.str)))) := Same.new hn
    have hn4 : (upd H3 n (.frz on (.tup ((rs.map Pr.name).map V.str)))) n = some (.frz on (.tup ((rs.map Pr.name).map V.str))) := upd_same
    generalize upd H3 n (.frz on (.tup ((rs.map Pr.name).map V.str))) = H4 at hp4 s4 hn4
    have b5 : ∀ b o, b ≠ p → H4 b = some o → (upd H4 p (.ins Cp dx (putF "names" (.ref n) (putF "_bodies" (.ref d) [])))) b = some o := fun b o n e => by rw [upd_ne n]; exact e
    have hp5 : (upd H4 p (.ins Cp dx (putF "names" (.ref n) (putF "_bodies" (.ref d) [])))) p = some (.ins Cp dx (putF "names" (.ref n) (putF "_bodies" (.ref d) []))) := upd_same
    generalize upd H4 p (.ins Cp dx (putF "names" (.ref n) (putF "_bodies" (.ref d) []))) = H5 at b5 hp5
    have hd4 := s4 _ _ hd3
    have hd5 := b5 _ _ (ne_of hd4 hp4 (by intro z; cases z)) hd4
    have hn5 := b5 _ _ (ne_of hn4 hp4 (by intro z; cases z)) hn4
    have s24 := s3.trans s4
    have st5 : ∀ r ∈ rs, StA H5 r.ts r.ss := fun r hr => paired_same ((st2 r hr).same s24) fun t s ht => b5 _ _ (ne_of ht hp4 (by intro z; cases z)) ht
    have bo5 : BoA K H5 us rs := paired_same (bo2.same s24) fun u r hu => but_tup b5 hp4 (fun _ => ⟨(by intro z; cases z), fun _ _ => (by intro z; cases z)⟩) hu
    have lb5 : (putF "names" (.ref n) (putF "_bodies" (.ref d) []) : List (Str × V)).lookup ("_bodies" : Str) = some (.ref d) := by rw [lookup_putF, if_neg (by decide), lookup_putF, if_pos rfl]
    refine ⟨_, rfl, p, Cp, dx, _, _, rfl, hp5, T.ins.cl, T.nB, lb5, d, us, rs, rfl, hd5, bo5, st5, R.few, R.ri, fun q pl H6 up m hq s6 => ?_⟩
    have hp6 := s6 _ _ hp5
    refine ⟨_, rfl, p, Cp, dx, _, rfl, hp6, T.ins.cl, T.nQ, (by show 2 < 1000; decide), ?_⟩
    have b7 : ∀ b o, b ≠ p → H6 b = some o → (upd H6 p (.ins Cp dx (flP d n q))) b = some o := fun b o n e => by rw [upd_ne n]; exact e
    refine k _ ⟨dx, d, n, q, us, pl, ⟨upd_same, ?_, ?_, ?_, ?_, ?_⟩, R, up, m⟩ fun b o nb e => ?_
    · exact b7 _ _ (ne_of (s6 _ _ hd5) hp6 (by intro z; cases z)) (s6 _ _ hd5)
    · exact paired_same (bo5.same s6) fun u r hu => but_tup b7 hp6 (fun _ => ⟨(by intro z; cases z), fun _ _ => (by intro z; cases z)⟩) hu
    · exact fun r hr => paired_same ((st5 r hr).same s6) fun t s ht => b7 _ _ (ne_of ht hp6 (by intro z; cases z)) ht
    · exact ⟨on, on1, on2, b7 _ _ (ne_of (s6 _ _ hn5) hp6 (by intro z; cases z)) (s6 _ _ hn5)⟩
    · exact b7 _ _ (ne_of hq hp6 (by intro z; cases z)) hq
    · exact b7 _ _ nb (s6 _ _ (b5 _ _ nb (s4 _ _ (s3 _ _ (b2 _ _ nb (s1 _ _ e))))))
end
end Mf
namespace Mf
open PySem L2
section
variable {P : Program} {w : World} {K : PySem.W.Frag} {mg : Str → Option Value} {base : Heap} {Cp C : Addr}
theorem kvs_val : ∀ {rs : List Pr} {us : List Addr} {r : Pr}, us.length = rs.length → (rs.map Pr.name).Nodup → r ∈ rs → ∃ (i : Nat) (u : Addr), rs[i]? = some r ∧ us[i]? = some u ∧ valV (kvsOf rs us) (Sum.inr r.name) = some (.ref u)
  | [], _, r, _, _, h => by cases h
  | a :: rs, [], _, h, _, _ => by simp at h
  | a :: rs, b :: us, r, l, nd, h => by
    rw [List.map_cons, List.nodup_cons] at nd
    show ∃ i u, _ ∧ _ ∧ valV ((Sum.inr a.name, V.ref b) :: kvsOf rs us) _ = _
    by_cases e : a.name = r.name
    · have hr : r = a := by
        rcases List.mem_cons.mp h with q | q
        · exact q
        · exact absurd (List.mem_map.mpr ⟨r, q, e.symm⟩) nd.1
      subst hr
      exact ⟨0, b, rfl, rfl, valV_pos rfl⟩
    · have hr : r ∈ rs := by
        rcases List.mem_cons.mp h with q | q
        · subst q; exact absurd rfl e
        · exact q
      obtain ⟨i, u, h1, h2, h3⟩ := kvs_val (by simpa using l) nd.2 hr
      exact ⟨i + 1, u, h1, h2, by rw [valV_neg (fun q => e (Sum.inr.inj q))]; exact h3⟩
def spPgGet (K : PySem.W.Frag) (Cp : Addr) : Sp := fun vs H Q _ => ∃ (p : Addr) (rs : List Pr) (r : Pr), vs = [.ref p, .str r.name] ∧ Prg K Cp H p rs ∧ r ∈ rs ∧ ∀ u, SqT K H u (r.ts.map V.ref) → StA H r.ts r.ss → Q (.ref u) H
abbrev sProgramGetitem : Stmt := inClass (top 18) 3
theorem scProgramGetitem : FnScope ["self", "name"] ["self", "name"] (defScope sProgramGetitem) := ⟨rfl, rfl, rfl, by decide +kernel, rfl, by decide +kernel, by decide +kernel⟩
theorem ok_pgGet {f : Addr} {fd : FuncData} (F : Fun K "__getitem__" "Program.__getitem__" sProgramGetitem f fd) (T : PgC K mg Cp) : FnOk P w K mg base CX0 1 f fd ["self", "name"] (spPgGet K Cp) := by
  refine F.ok scProgramGetitem (fun vs H Q E h => ?_) (fun cdv A outer s H vs Q E hr h => ?_)
  · obtain ⟨p, rs, r, rfl, _⟩ := h
    rfl
  · obtain ⟨p, rs, r, rfl, ⟨dx, d, n, q, us, pl, x, R, up, m⟩, hr', k⟩ := h
    have hu : (A.deeper (PyProof.Rows.envOfC "Program.__getitem__" (defScope sProgramGetitem) s.heap.objs.size f cdv)).units + 1 < cLine := by have := hr.units; omega
    refine ⟨_, (pss_cons (ps_if (pt_cmpR (nin K) (pv 1) (fldK K (pv 0)) (by rfl))
        (pss_one ps_never) pss_nil)
      (pss_one (ps_ret (pe_dget hu (fldK K (pv 0)) (pv 1) (fun _ _ => rfl))))), ?_⟩
    have ln : us.length = rs.length := Paired.length x.bo
    obtain ⟨i, u, h1, h2, h3⟩ := kvs_val ln R.nd hr'
    obtain ⟨r2, h4, h5⟩ := paired_get x.bo h2
    rw [h1] at h4
    cases h4
    refine ⟨_, rfl, _, rfl, p, Cp, dx, _, _, rfl, x.o, T.ins.cl, T.nN, flP_n d n q, n, _, rfl, .inr x.n.sq, rfl, flat_strs _, _, rfl, ?_⟩
    show if (!inV (.str r.name) ((rs.map Pr.name).map V.str)) = true then _ else _
    rw [inV_str, decide_eq_true (List.mem_map.mpr ⟨r, hr', rfl⟩)]
    refine iteF ?_
    exact ⟨_, rfl, p, Cp, dx, _, _, rfl, x.o, T.ins.cl, T.nB, flP_b d n q, _, rfl, d, _, rfl, .inl ⟨_, Sum.inr r.name, .inl x.b, rfl, h3.symm⟩, k u h5 (x.st r hr')⟩
def spPgHas (K : PySem.W.Frag) (Cp : Addr) : Sp := fun vs H Q _ => ∃ (p : Addr) (rs : List Pr) (z : Str), vs = [.ref p, .str z] ∧ Prg K Cp H p rs ∧ Q (.bl (decide (z ∈ rs.map Pr.name))) H
abbrev sProgramContains : Stmt := inClass (top 18) 5
theorem scProgramContains : FnScope ["self", "name"] ["self", "name"] (defScope sProgramContains) := ⟨rfl, rfl, rfl, by decide +kernel, rfl, by decide +kernel, by decide +kernel⟩
theorem ok_pgHas {f : Addr} {fd : FuncData} (F : Fun K "__contains__" "Program.__contains__" sProgramContains f fd) (T : PgC K mg Cp) : FnOk P w K mg base CX0 1 f fd ["self", "name"] (spPgHas K Cp) := by
  refine F.ok scProgramContains (fun vs H Q E h => ?_) (fun cdv A outer s H vs Q E hr h => ?_)
  · obtain ⟨p, rs, z, rfl, _⟩ := h
    rfl
  · obtain ⟨p, rs, z, rfl, ⟨dx, d, n, q, us, pl, x, R, up, m⟩, k⟩ := h
    refine ⟨_, (pss_one (ps_ret (pe_cmpR (oin K) (pv 1) (fldK K (pv 0)) (by rfl)))), ?_⟩
    refine ⟨_, rfl, _, rfl, p, Cp, dx, _, _, rfl, x.o, T.ins.cl, T.nN, flP_n d n q, n, _, rfl, .inr x.n.sq, rfl, flat_strs _, ?_⟩
    show Q (.bl (inV (.str z) ((rs.map Pr.name).map V.str))) H
    rw [inV_str]
    exact k
def spPgLen (K : PySem.W.Frag) (Cp : Addr) : Sp := fun vs H Q _ => ∃ (p : Addr) (rs : List Pr), vs = [.ref p] ∧ Prg K Cp H p rs ∧ Q (.int (rs.length : Nat)) H
abbrev sProgramLen : Stmt := inClass (top 18) 6
theorem scProgramLen : FnScope ["self"] ["self"] (defScope sProgramLen) := ⟨rfl, rfl, rfl, by decide +kernel, rfl, by decide +kernel, by decide +kernel⟩
theorem ok_pgLen {f : Addr} {fd : FuncData} (F : Fun K "__len__" "Program.__len__" sProgramLen f fd) (T : PgC K mg Cp) : FnOk P w K mg base CX0 1 f fd ["self"] (spPgLen K Cp) := by
  refine F.ok scProgramLen (fun vs H Q E h => ?_) (fun cdv A outer s H vs Q E hr h => ?_)
  · obtain ⟨p, rs, rfl, _⟩ := h
    rfl
  · obtain ⟨p, rs, rfl, ⟨dx, d, n, q, us, pl, x, R, up, m⟩, k⟩ := h
    have mLen := T.mLen
    refine ⟨_, (pss_one (ps_ret (pe_callB (k_len K) (by rfl) mLen (by decide +kernel) (pa_cons (fldK K (pv 0)) pa_nil)))), ?_⟩
    refine ⟨_, rfl, p, Cp, dx, _, _, rfl, x.o, T.ins.cl, T.nN, flP_n d n q, n, _, rfl, .inr x.n.sq, ?_⟩
    rw [List.length_map, List.length_map]
    exact k
/-! ### == -/
theorem names_ok {rs : List Pr} (R : RightP rs) : ∀ z ∈ rs.map Pr.name, PyData.strOk z = true := fun z hz => by
  obtain ⟨r, hr, rfl⟩ := List.mem_map.mp hz
  exact (R.ri r hr).1.ok
def dsOf (rs : List Pr) : List (Key × PyData) := rs.map fun r => (Sum.inr r.name, bdT r.ss)
theorem dp_body {H : Hp} {u : Addr} {r : Pr} (h : SqT K H u (r.ts.map V.ref)) (st : StA H r.ts r.ss) : Dp K H (.ref u) (bdT r.ss) :=
  .tup h (dpPair st fun t s ht => .tup (.of ht) (.cons (.str _) (.cons (.str _) .nil)))
theorem right_st {r : Pr} (h : Right r) : ∀ s ∈ r.ss, StOk s := fun s hs => stepB_ok (bodyB_st h.2.1 s hs)
theorem dpKV_of {H : Hp} : ∀ {rs : List Pr} {us : List Addr}, BoA K H us rs → (∀ r ∈ rs, StA H r.ts r.ss) → (∀ r ∈ rs, Right r) → DpKV K H (kvsOf rs us) (dsOf rs)
  | [], [], _, _, _ => .nil
  | r :: rs, u :: us, .cons a b, st, ri => .cons ⟨rfl, dp_body a (st r List.mem_cons_self), (sh_bdT (right_st (ri r List.mem_cons_self))).sh⟩ (dpKV_of b (fun x hx => st x (List.mem_cons_of_mem _ hx)) fun x hx => ri x (List.mem_cons_of_mem _ hx))
theorem valD_of : ∀ {rs : List Pr} {r : Pr}, (rs.map Pr.name).Nodup → r ∈ rs → valD (dsOf rs) (Sum.inr r.name) = some (bdT r.ss)
  | [], r, _, h => by cases h
  | a :: rs, r, nd, h => by
    rw [List.map_cons, List.nodup_cons] at nd
    unfold valD dsOf
    rw [List.map_cons]
    by_cases e : a.name = r.name
    · rw [List.find?_cons_of_pos (by simpa using e)]
      rcases List.mem_cons.mp h with q | q
      · rw [q]; rfl
      · exact absurd (List.mem_map.mpr ⟨r, q, e.symm⟩) nd.1
    · rw [List.find?_cons_of_neg (by simpa using e)]
      rcases List.mem_cons.mp h with q | q
      · subst q; exact absurd rfl e
      · exact valD_of nd.2 q
theorem eqv_dsE {es : List Pr} (nd : (es.map Pr.name).Nodup) : ∀ {rs es' : List Pr}, (∀ e ∈ es', e ∈ es) → rs.map Pr.name = es'.map Pr.name → eqvKV (dsOf es) (dsOf rs) = decide (pls rs = pls es')
  | [], [], _, _ => rfl
  | [], _ :: _, _, h => by simp at h
  | _ :: _, [], _, h => by simp at h
  | r :: rs, e :: es', hm, h => by
    rw [List.map_cons, List.map_cons, List.cons.injEq] at h
    show ((match valD (dsOf es) (Sum.inr r.name) with | some d => PyData.eqv (bdT r.ss) d | none => false) && eqvKV (dsOf es) (dsOf rs)) = decide ((r.name, r.ss) :: pls rs = (e.name, e.ss) :: pls es')
    rw [h.1, valD_of nd (hm e List.mem_cons_self), eqv_dsE nd (fun x hx => hm x (List.mem_cons_of_mem _ hx)) h.2]
    show (PyData.eqv (bdT r.ss) (bdT e.ss) && _) = _
    rw [eqv_bdT]
    by_cases a : r.ss = e.ss <;> by_cases b : pls rs = pls es' <;> simp [a, b]
def OthP (K : PySem.W.Frag) (Cp : Addr) (H : Hp) (y : V) (rs : List Pr) (b : Bool) : Prop := (∃ q es, y = .ref q ∧ Prg K Cp H q es ∧ b = decide (pls rs = pls es)) ∨ ∃ t, TyX K H y t ∧ PySem.W.kitOne K t (.ref Cp) = some false ∧ b = false
def spPgEq (K : PySem.W.Frag) (Cp : Addr) : Sp := fun vs H Q _ => ∃ (p : Addr) (rs : List Pr) (y : V) (b : Bool), vs = [.ref p, y] ∧ Prg K Cp H p rs ∧ OthP K Cp H y rs b ∧ Q (.bl b) H
abbrev sProgramEq : Stmt := inClass (top 18) 7
theorem scProgramEq : FnScope ["self", "other"] ["self", "other"] (defScope sProgramEq) := ⟨rfl, rfl, rfl, by decide +kernel, rfl, by decide +kernel, by decide +kernel⟩
theorem ok_pgEq {f : Addr} {fd : FuncData} (F : Fun K "__eq__" "Program.__eq__" sProgramEq f fd) (T : PgC K mg Cp) : FnOk P w K mg base CX0 2 f fd ["self", "other"] (spPgEq K Cp) := by
  refine F.ok scProgramEq (fun vs H Q E h => ?_) (fun cdv A outer s H vs Q E hr h => ?_)
  · obtain ⟨p, rs, y, b, rfl, _⟩ := h
    rfl
  · obtain ⟨p, rs, y, b, rfl, ⟨dx, d, n, q, us, pl, x, R, up, m⟩, ho, k⟩ := h
    have mIsi := T.mIsi; have mg_Program := T.mgC
    have hu : (A.deeper (PyProof.Rows.envOfC "Program.__eq__" (defScope sProgramEq) s.heap.objs.size f cdv)).units + 65 < cLine := by
      have q := (Room.in1 (k := 0) hr).units
      exact q
    refine ⟨_, (pss_one (ps_ret (pe_and (pe_callB (k_isi K) (by rfl) mIsi (by decide +kernel) (pa_cons (pv 1) (pa_cons (pe_glob (v := .ref _) rfl mg_Program rfl) pa_nil))) (pe_and (pe_cmpR (eqD K hr) (fldK K (pv 0)) (fldK K (pv 1)) (nomark _)) (pe_one (pe_cmpR (op_eqDD hu) (fldK K (pv 0)) (fldK K (pv 1)) (nomark _))))))), ?_⟩
    rcases ho with ⟨q2, es, rfl, ⟨dy, d2, n2, q', us2, pl2, x2, R2, up2, m2⟩, rfl⟩ | ⟨ty, hy, e, rfl⟩
    · refine ⟨_, rfl, _, _, _, _, true, rfl, .own Cp, T.isi x2.o, T.ins.me, _, rfl, iteT ⟨_, rfl, p, Cp, dx, _, _, rfl, x.o, T.ins.cl, T.nN, flP_n d n q, _, rfl, q2, Cp, dy, _, _, rfl, x2.o, T.ins.cl, T.nN, flP_n d2 n2 q', ?_⟩⟩
      refine ⟨_, _, .tup x.n.sq (dpS _), .tup x2.n.sq (dpS _), shT (names_ok R), shT (names_ok R2), _, rfl, ?_⟩
      show if PyData.eqvAll _ _ = true then _ else _
      rw [eqvS]
      by_cases e : rs.map Pr.name = es.map Pr.name
      · rw [decide_eq_true e]
        refine iteT ?_
        refine ⟨_, rfl, p, Cp, dx, _, _, rfl, x.o, T.ins.cl, T.nB, flP_b d n q, _, rfl, q2, Cp, dy, _, _, rfl, x2.o, T.ins.cl, T.nB, flP_b d2 n2 q', ?_⟩
        refine ⟨d, d2, _, _, dsOf rs, dsOf es, rfl, rfl, x.b, x2.b, dpKV_of x.bo x.st R.ri, dpKV_of x2.bo x2.st R2.ri, ?_⟩
        have l : (dsOf rs).length = (dsOf es).length := by
          unfold dsOf
          rw [List.length_map, List.length_map]
          have := congrArg List.length e
          simpa using this
        rw [decide_eq_true l, Bool.true_and, eqv_dsE R2.nd (fun _ h => h) e]
        exact k
      · rw [decide_eq_false e]
        refine iteF ?_
        have e2 : ¬ pls rs = pls es := fun q => e (by rw [← pls_names, ← pls_names, q])
        rw [decide_eq_false e2] at k
        exact k
    · exact ⟨_, rfl, _, _, _, _, false, rfl, .own Cp, hy, e, _, rfl, iteF k⟩
end
end Mf
namespace Mf
open PySem L2
section
variable {P : Program} {w : World} {K : PySem.W.Frag} {mg : Str → Option Value} {base : Heap}
abbrev psD : List Str := ["_law_source_here", "_law_many"]

/-! ### _law_name -/
/-- a drawn name -/
def DrN (z : Str) : Prop := IsName z ∧ (z.cps.size = 6 → z.cps.toList.head? = some 113)
instance (z : Str) : Decidable (DrN z) := by unfold DrN; infer_instance
def spName (K : PySem.W.Frag) : Sp := fun vs H Q _ => ∃ (a t : Addr) (taken : List Str) (n : Nat), vs = [.ref a, .ref t] ∧ Src H a (n + 10) ∧ t ≠ a ∧ SqL K H t (taken.map V.str) ∧ taken.length ≤ 16 ∧
  ∀ z H', DrN z → z ∉ taken → Kp a H H' → Src H' a n → Q (.str z) H'
abbrev sName : Stmt := top 46
theorem scName : FnScope ["_law_source_here", "_law_taken", "_law_size", "_law_name_here", "_law_k", "_law_one", "_law_letter"] ["_law_source_here", "_law_taken"] (defScope sName) := ⟨rfl, rfl, rfl, by decide +kernel, rfl, by decide +kernel, by decide +kernel⟩
def zAt (c : Nat) : Str := ("z" : Str) ++ ⟨#[c]⟩
theorem zAt_name {c : Nat} (h : Low c) : IsName (zAt c) := by
  have e : (zAt c).cps.toList = [122, c] := str_add _ _
  refine ⟨?_, ?_, ?_⟩
  · rw [← Array.length_toList, e]; exact (by decide : 1 ≤ 2)
  · rw [← Array.length_toList, e]; exact (by decide : 2 ≤ 8)
  · rw [e]; intro d hd
    rcases List.mem_cons.mp hd with rfl | hd
    · unfold Low; omega
    · rw [List.mem_singleton.mp hd]; exact h
theorem zAt_dr {c : Nat} (h : Low c) : DrN (zAt c) := ⟨zAt_name h, fun l => by
  have e : (zAt c).cps.toList = [122, c] := str_add _ _
  rw [← Array.length_toList, e] at l
  exact absurd l (by show ¬ (2 = 6); decide)⟩
theorem zAt_inj {c d : Nat} (h : zAt c = zAt d) : c = d := by
  have e : (zAt c).cps.toList = (zAt d).cps.toList := by rw [h]
  have e1 : (zAt c).cps.toList = [122, c] := str_add _ _
  have e2 : (zAt d).cps.toList = [122, d] := str_add _ _
  rw [e1, e2] at e
  simpa using e
theorem sizes_at {v : Int} (h0 : 0 ≤ v) (h : v < 13) : ∃ m : Nat, atI [V.int 8, .int 4, .int 5, .int 6, .int 7, .int 1, .int 2, .int 3, .int 1, .int 2, .int 3, .int 1, .int 2] v = some (.int (m : Nat)) ∧ 1 ≤ m ∧ m ≤ 8 := by
  obtain ⟨n, rfl⟩ := Int.eq_ofNat_of_zero_le h0
  have e : ∀ n : Fin 13, atI [V.int 8, .int 4, .int 5, .int 6, .int 7, .int 1, .int 2, .int 3, .int 1, .int 2, .int 3, .int 1, .int 2] ((n.val : Nat) : Int) = some (.int (([8, 4, 5, 6, 7, 1, 2, 3, 1, 2, 3, 1, 2].getD n.val 0 : Nat))) ∧ 1 ≤ ([8, 4, 5, 6, 7, 1, 2, 3, 1, 2, 3, 1, 2].getD n.val 0) ∧ ([8, 4, 5, 6, 7, 1, 2, 3, 1, 2, 3, 1, 2].getD n.val 0) ≤ 8 := by decide +kernel
  exact ⟨_, e ⟨n, by omega⟩⟩
theorem cut_q {z : Str} (h : IsName z) (h8 : z.length < 8) : DrN (("q" : Str) ++ cutS z (some 1) none) := by
  have hz : z.cps.toList.length = z.length := Array.length_toList
  have e : (("q" : Str) ++ cutS z (some 1) none).cps.toList = 113 :: (z.cps.toList.drop (HT.sIx z.length 0 (some 1))).take (HT.sIx z.length z.length none - HT.sIx z.length 0 (some 1)) := str_add _ _
  have l : (z.cps.toList.drop (HT.sIx z.length 0 (some 1))).take (HT.sIx z.length z.length none - HT.sIx z.length 0 (some 1)) ⊆ z.cps.toList := fun c hc => List.mem_of_mem_drop (List.mem_of_mem_take hc)
  have b : ((z.cps.toList.drop (HT.sIx z.length 0 (some 1))).take (HT.sIx z.length z.length none - HT.sIx z.length 0 (some 1))).length ≤ 7 := by
    rw [List.length_take, List.length_drop, hz]; omega
  refine ⟨⟨?_, ?_, ?_⟩, fun _ => by rw [e]; rfl⟩
  · rw [← Array.length_toList, e, List.length_cons]; omega
  · rw [← Array.length_toList, e, List.length_cons]; omega
  · rw [e]; intro c hc
    rcases List.mem_cons.mp hc with rfl | hc
    · unfold Low; omega
    · exact h.2.2 c (l hc)
theorem kinds_names : ∀ z ∈ ([("read" : Str), "call", "say", "try"] : List Str), DrN z := by decide +kernel
theorem zs_fresh {taken : List Str} (h : taken.length ≤ 16) : (("abcdefghijklmnopq" : Str).cps.toList.map zAt).filter (fun z => !decide (z ∈ taken)) ≠ [] := by
  intro e
  have sub : (("abcdefghijklmnopq" : Str).cps.toList.map zAt) ⊆ taken := fun z hz => by
    refine Classical.byContradiction fun n => ?_
    have m : z ∈ (("abcdefghijklmnopq" : Str).cps.toList.map zAt).filter (fun z => !decide (z ∈ taken)) := List.mem_filter.mpr ⟨hz, by simp [n]⟩
    rw [e] at m
    cases m
  have nd : (("abcdefghijklmnopq" : Str).cps.toList.map zAt).Nodup := by
    refine List.Pairwise.map _ (fun a b (n : a ≠ b) q => n (zAt_inj q)) ?_
    show (("abcdefghijklmnopq" : Str).cps.toList).Nodup
    decide +kernel
  have l := nodup_le nd sub
  rw [List.length_map] at l
  have : ("abcdefghijklmnopq" : Str).cps.toList.length = 17 := by decide +kernel
  omega
theorem ok_name {f : Addr} {fd : FuncData} (F : Fun K "_law_name" "_law_name" sName f fd) (c_draw : Cal P w K mg base CX0 1 "_law_draw" psD spDraw) (mRange : mg "range" = none) : FnOk P w K mg base CX0 2 f fd ["_law_source_here", "_law_taken"] (spName K) := by
  refine F.ok scName (fun vs H Q E h => ?_) (fun cdv A outer s H vs Q E hr h => ?_)
  · obtain ⟨a, t, taken, n, rfl, _⟩ := h
    rfl
  · obtain ⟨a, t, taken, n, rfl, S, ta, ht, tl, k⟩ := h
    have hr_draw : Room 1 (A.deeper (PyProof.Rows.envOfC "_law_name" (defScope sName) s.heap.objs.size f cdv)) := hr
    refine ⟨_, (pss_cons (ps_set (i := 2) scName.nd rfl (by first | exact Or.inl rfl | exact Or.inr rfl) (pe_ix (ixl K) (pe_lst (pa_cons pe_int (pa_cons pe_int (pa_cons pe_int (pa_cons pe_int (pa_cons pe_int (pa_cons pe_int (pa_cons pe_int (pa_cons pe_int (pa_cons pe_int (pa_cons pe_int (pa_cons pe_int (pa_cons pe_int (pa_cons pe_int pa_nil)))))))))))))) (pe_cal c_draw hr_draw pass0 (pa_cons (pv 0) (pa_cons pe_int pa_nil))) (fun _ _ => rfl)))
      (pss_cons (ps_set (i := 3) scName.nd rfl (by first | exact Or.inl rfl | exact Or.inr rfl) (pe_join pe_str (pe_lc (own := [("_law_k", 4)]) (g := (gName 4)) (tt := tYes) rfl scName.nd (pi_range1 (by rfl) mRange (pa_cons (pv 2) pa_nil)) (blkOk_by (own := [("_law_k", 4)]) (N := ["_law_source_here", "_law_taken", "_law_size", "_law_name_here", "_law_k", "_law_one", "_law_letter"]) (sc := defScope sName) (by decide +kernel)) (fun _ _ _ _ _ => (pg_name (i := 4) scName.nd rfl (by first | exact Or.inl rfl | exact Or.inr rfl))) (fun _ _ _ _ _ => pts_nil) (fun _ _ _ _ _ => (pe_ix ix_str pe_str (pe_cal c_draw hr_draw pass0 (pa_cons (pv 0) (pa_cons pe_int pa_nil))) (fun _ _ => rfl))))))
      (C8.pss_cut (ps_if (pt_chain op_lt op_lt pe_int (pv 2) pe_int)
        (pss_one (ps_set (i := 3) scName.nd rfl (by first | exact Or.inl rfl | exact Or.inr rfl) (pe_ix (ixl K) (pe_lst (pa_cons pe_str (pa_cons pe_str (pa_cons pe_str (pa_cons pe_str (pa_cons (pe_op op_add_str pe_str (pe_slice sl_str (pv 3) (po_some pe_int) po_none)) pa_nil)))))) (pe_cal c_draw hr_draw pass0 (pa_cons (pv 0) (pa_cons pe_int pa_nil))) (fun _ _ => rfl)))) pss_nil)
      (pss_cons (ps_if (pt_cmpR (nin K) (pv 3) (pv 1) (by rfl))
        (pss_one (ps_ret (pv 3))) pss_nil)
      (pss_one (ps_ret (pe_ix (ixl K) (pe_lc (own := [("_law_one", 5)]) (g := (gName 5)) rfl scName.nd (pi_list (pe_lc (own := [("_law_letter", 6)]) (g := (gName 6)) (tt := tYes) rfl scName.nd (pi_str pe_str) (blkOk_by (own := [("_law_letter", 6)]) (N := ["_law_source_here", "_law_taken", "_law_size", "_law_name_here", "_law_k", "_law_one", "_law_letter"]) (sc := defScope sName) (by decide +kernel)) (fun _ _ _ _ _ => (pg_name (i := 6) scName.nd rfl (by first | exact Or.inl rfl | exact Or.inr rfl))) (fun _ _ _ _ _ => pts_nil) (fun _ _ _ _ _ => (pe_op op_add_str pe_str (pv 6))))) (blkOk_by (own := [("_law_one", 5)]) (N := ["_law_source_here", "_law_taken", "_law_size", "_law_name_here", "_law_k", "_law_one", "_law_letter"]) (sc := defScope sName) (by decide +kernel)) (fun _ _ _ _ _ => (pg_name (i := 5) scName.nd rfl (by first | exact Or.inl rfl | exact Or.inr rfl))) (fun _ _ _ _ _ => pts_one (pt_cmpR (nin K) (pv 5) (pv 1) (by rfl))) (fun _ _ _ _ _ => (pv 5))) pe_int (fun _ _ => rfl)))))))), ?_⟩
    refine ⟨(by show 13 ≤ sizeLine; decide), fun l hl => ⟨_, rfl, a, 13, n + 9, rfl, by decide, by decide, S.new hl, fun v H1 v0 v1 k1 S1 => ?_⟩⟩
    obtain ⟨m, hm, m1, m8⟩ := sizes_at v0 v1
    refine ⟨l, _, v, _, rfl, rfl, .of (k1 _ _ (S.ne hl) upd_same), hm, ?_⟩
    have k1 : Kp a H H1 := (Kp.new hl).trans k1
    refine ⟨⟨_, rfl⟩, _, rfl, m, rfl, by omega, by omega, fun D hD => ?_⟩
    refine lc_range (lo := 0) (n := m) (fun i H' => ∃ cs : List Nat, cs.length = i ∧ (∀ c ∈ cs, Low c) ∧ H' D = some (.lst (cs.map fun c => V.str ⟨#[c]⟩)) ∧ Kp a H1 H' ∧ Src H' a (n + 9 - i) ∧ D ≠ a) ⟨[], rfl, (by simp), upd_same, Kp.new hD, S1.new hD, S1.ne hD⟩ ?_ ?_
    · rintro i H2 hi ⟨cs, hc, low, h2, k2, S2, Da⟩
      refine ⟨rfl, yes_then ?_⟩
      refine ⟨_, rfl, a, 26, n + 8 - i, rfl, by decide, by decide, S2.mono (by omega), fun v H3 v0 v1 k3 S3 => ?_⟩
      obtain ⟨c, hcc, lc⟩ := alpha_at v0 v1
      refine ⟨_, v, c, rfl, rfl, (by show 26 ≤ sizeLine; decide), hcc, _, k3 _ _ Da h2, (by rw [List.length_map, hc]; exact Nat.lt_of_lt_of_le (by omega : i < 9) (by decide)), cs ++ [c], by rw [List.length_append, hc]; rfl, fun d hd => ?_, ?_, ?_, ?_, Da⟩
      · rcases List.mem_append.mp hd with hd | hd
        · exact low d hd
        · rw [List.mem_singleton.mp hd]; exact lc
      · rw [upd_same, List.map_append]; rfl
      · exact (k2.trans k3).mut (H := H1) hD
      · exact (S3.put Da).mono (by omega)
    · rintro H2 ⟨cs, hc, low, h2, k2, S2, Da⟩
      have e1 : (cs.map fun c => V.str ⟨#[c]⟩) = ((cs.map fun c => (⟨#[c]⟩ : Str)).map V.str) := by rw [List.map_map]; rfl
      rw [e1] at h2
      have one : ∀ y ∈ cs.map (fun c => (⟨#[c]⟩ : Str)), y.length ≤ 1 := fun y hy => by
        obtain ⟨c, _, rfl⟩ := List.mem_map.mp hy
        exact Nat.le_refl 1
      refine ⟨_, D, _, rfl, rfl, .inl (.of h2), ?_, ?_⟩
      · have q := sum_len one
        rw [List.length_map] at q ⊢
        show _ + cs.length * 0 ≤ _
        omega
      rw [join_signs]
      have nm : IsName (⟨cs.toArray⟩ : Str) := ⟨by show 1 ≤ cs.toArray.size; simp; omega, by show cs.toArray.size ≤ 8; simp; omega, fun c hc => low c (by simpa using hc)⟩
      have sz : (⟨cs.toArray⟩ : Str).cps.size = m := by show cs.toArray.size = m; simp; omega
      generalize (⟨cs.toArray⟩ : Str) = z at nm sz
      have k2 : Kp a H H2 := k1.trans k2
      refine ⟨fun σ' H' => ∃ z, σ' = [some (.ref a), some (.ref t), some (.int (m : Nat)), some (.str z), none, none, none] ∧ DrN z ∧ Kp a H H' ∧ Src H' a n, ?_, ?_⟩
      · refine ⟨_, rfl, _, _, rfl, rfl, _, rfl, ite2 (fun h3 => ?_) fun n3 => ?_⟩
        · refine ⟨_, _, rfl, rfl, _, rfl, ite2 (fun h8 => ?_) fun n8 => ?_⟩
          · have m7 : (m : Int) < 8 := of_decide_eq_true h8
            refine ⟨_, rfl, _, rfl, z, rfl, Nat.le_trans nm.len (by decide), _, _, rfl, rfl, ?_, ?_⟩
            · have q := cutS_length z (some 1) none
              have q2 := nm.len
              show 1 + _ ≤ _
              exact Nat.le_trans (by omega : _ ≤ 9) (by decide)
            refine ⟨(by show 5 ≤ sizeLine; decide), fun l2 hl2 => ⟨_, rfl, a, 5, n, rfl, by decide, by decide, (S2.mono (by omega : n + 1 ≤ n + 9 - m)).new hl2, fun v H3 v0 v1 k3 S3 => ?_⟩⟩
            obtain ⟨x, hx, hat⟩ := atI_mem (xs := [V.str "read", .str "call", .str "say", .str "try", .str (("q" : Str) ++ cutS z (some 1) none)]) v0 v1
            have hx' : ∃ y, x = .str y ∧ DrN y := by
              have kk := kinds_names
              simp only [List.mem_cons, List.not_mem_nil, or_false] at hx kk
              rcases hx with rfl | rfl | rfl | rfl | rfl
              · exact ⟨_, rfl, kk _ (by simp)⟩
              · exact ⟨_, rfl, kk _ (by simp)⟩
              · exact ⟨_, rfl, kk _ (by simp)⟩
              · exact ⟨_, rfl, kk _ (by simp)⟩
              · exact ⟨_, rfl, cut_q nm (by have : z.length = z.cps.size := rfl; omega)⟩
            obtain ⟨y, rfl, ny⟩ := hx'
            exact ⟨l2, _, v, _, rfl, rfl, .of (k3 _ _ (S2.ne hl2) upd_same), hat, y, rfl, ny, (k2.trans (Kp.new hl2)).trans k3, S3⟩
          · exact ⟨z, rfl, ⟨nm, fun l => absurd (decide_eq_true (by omega)) n8⟩, k2, S2.mono (by omega)⟩
        · exact ⟨_, rfl, iteF ⟨z, rfl, ⟨nm, fun l => absurd (decide_eq_true (by omega)) n3⟩, k2, S2.mono (by omega)⟩⟩
      · rintro σ' H3 ⟨z, rfl, nm, k3, S3⟩
        have ht3 := k3.lst ta ht
        have fl : (taken.map V.str).all flatV = true := by rw [List.all_map]; exact List.all_eq_true.mpr fun _ _ => rfl
        refine ⟨_, rfl, _, rfl, t, _, rfl, .inl ht3, rfl, fl, _, rfl, ?_⟩
        show if (!inV (.str z) (taken.map V.str)) = true then _ else _
        rw [inV_str]
        by_cases hz : z ∈ taken
        · rw [decide_eq_true hz]
          refine iteF ?_
          refine ⟨_, rfl, fun E1 hE1 => ?_⟩
          refine lc_it walk_str (fun i H' => H' E1 = some (.lst ((("abcdefghijklmnopq" : Str).cps.toList.take i).map fun c => V.str (zAt c))) ∧ Kp a H3 H' ∧ Src H' a n) ⟨upd_same, Kp.new hE1, S3.new hE1⟩ (fun _ _ _ _ => trivial) ?_ ?_
          · rintro i x H4 _ hi ⟨h4, k4, S4⟩ ⟨rfl, c, hc, rfl⟩
            refine ⟨rfl, yes_then ?_⟩
            refine ⟨_, rfl, _, _, rfl, rfl, (by show 1 + 1 ≤ sizeLine; decide), _, h4, ?_, ?_, ?_, ?_⟩
            · rw [List.length_map]
              exact Nat.lt_of_le_of_lt (List.length_take_le _ _) (Nat.lt_of_lt_of_le (show i < 17 from hi) (by decide))
            · rw [upd_same, List.take_add_one, List.map_append]
              have e : ("abcdefghijklmnopq" : Str).cps.toList[i]? = some c := by rw [Array.getElem?_toList]; exact hc
              rw [e]; rfl
            · exact k4.mut hE1
            · exact S4.put (S3.ne hE1)
          · rintro H4 ⟨h4, k4, S4⟩
            have e17 : (("abcdefghijklmnopq" : Str).cps.toList.take ("abcdefghijklmnopq" : Str).cps.size).map (fun c => V.str (zAt c)) = (("abcdefghijklmnopq" : Str).cps.toList.map zAt).map V.str := by
              rw [List.take_of_length_le (by rw [Array.length_toList]; exact Nat.le_refl _), List.map_map]; rfl
            rw [e17] at h4
            have low : ∀ z ∈ ("abcdefghijklmnopq" : Str).cps.toList.map zAt, DrN z := fun z hz => by
              obtain ⟨c, hc, rfl⟩ := List.mem_map.mp hz
              refine zAt_dr ?_
              have all : ∀ c ∈ ("abcdefghijklmnopq" : Str).cps.toList, 97 ≤ c ∧ c ≤ 122 := by decide +kernel
              exact all c hc
            have fresh := zs_fresh tl
            have len17 : (("abcdefghijklmnopq" : Str).cps.toList.map zAt).length = 17 := by decide +kernel
            generalize ("abcdefghijklmnopq" : Str).cps.toList.map zAt = zs at h4 low fresh len17
            refine ⟨E1, rfl, ⟨_, .of h4⟩, fun E2 hE2 => ?_⟩
            have n21 : E1 ≠ E2 := Ne.symm (ne_none hE2 h4)
            refine lc_it walk_list (fun i H' => H' E2 = some (.lst (((zs.take i).filter fun z => !decide (z ∈ taken)).map V.str)) ∧ Kp a H4 H' ∧ Src H' a n) ⟨upd_same, Kp.new hE2, S4.new hE2⟩ (fun i H' _ q => .of (q.2.1 _ _ (by exact ne_none hE1 (show H3 a = some _ from S3.choose_spec.choose_spec.choose_spec.1)) h4)) ?_ ?_
            · rintro i x H5 _ hi ⟨h5, k5, S5⟩ ⟨rfl, hx⟩
              rw [List.getElem?_map] at hx
              obtain ⟨y, hy, rfl⟩ := Option.map_eq_some_iff.mp hx
              have ht5 := (k4.trans k5).lst ta ht3
              have tk : zs.take (i + 1) = zs.take i ++ [y] := by rw [List.take_add_one, hy]; rfl
              refine ⟨rfl, _, rfl, _, rfl, t, _, rfl, .inl ht5, rfl, fl, _, rfl, ?_⟩
              show if (!inV (.str y) (taken.map V.str)) = true then _ else _
              rw [inV_str]
              by_cases hz : y ∈ taken
              · rw [decide_eq_true hz]
                refine iteF ⟨?_, k5, S5⟩
                rw [tk, List.filter_append, List.filter_cons_of_neg (by simp [hz]), List.filter_nil, List.append_nil]
                exact h5
              · rw [decide_eq_false hz]
                refine iteT ⟨_, rfl, _, h5, ?_, ?_, k5.mut hE2, S5.put (S4.ne hE2)⟩
                · rw [List.length_map]
                  refine Nat.lt_of_le_of_lt (Nat.le_trans (List.length_filter_le _ _) (List.length_take_le _ _)) (Nat.lt_of_lt_of_le (show i < 17 by rw [List.length_map, len17] at hi; exact hi) (by decide))
                · rw [upd_same, tk, List.filter_append, List.filter_cons_of_pos (by simp [hz]), List.filter_nil, List.map_append]
                  rfl
            · rintro H5 ⟨h5, k5, S5⟩
              rw [List.length_map, List.take_length] at h5
              have nice : ∀ z ∈ zs.filter (fun z => !decide (z ∈ taken)), DrN z ∧ z ∉ taken := fun z hz => by
                obtain ⟨m1, m2⟩ := List.mem_filter.mp hz
                exact ⟨low z m1, by simpa using m2⟩
              generalize zs.filter (fun z => !decide (z ∈ taken)) = fs at fresh nice h5
              rcases fs with _ | ⟨y, ys⟩
              · exact absurd rfl fresh
              · obtain ⟨n1, n2⟩ := nice y List.mem_cons_self
                exact ⟨E2, _, 0, .str y, rfl, rfl, .of h5, atI_nat (j := 0) rfl, k y H5 n1 n2 ((k3.trans k4).trans k5) S5⟩
        · rw [decide_eq_false hz]
          exact iteT ⟨_, rfl, k z H3 nm hz k3 S3⟩
def spNames : Sp := fun vs H Q _ => ∃ (a : Addr) (many n : Nat), vs = [.ref a, .int many] ∧ many ≤ 16 ∧ Src H a (n + 10 * many) ∧
  ∀ (p : Addr) (zs : List Str) (H' : Hp), zs.length = many → zs.Nodup → (∀ z ∈ zs, DrN z) → H p = none → H' p = some (.lst (zs.map V.str)) → Kp a H H' → Src H' a n → Q (.ref p) H'
abbrev sNames : Stmt := top 47
theorem scNames : FnScope ["_law_source_here", "_law_many", "_law_names_here", "_law_k"] ["_law_source_here", "_law_many"] (defScope sNames) := ⟨rfl, rfl, rfl, by decide +kernel, rfl, by decide +kernel, by decide +kernel⟩
theorem ok_names {f : Addr} {fd : FuncData} (F : Fun K "_law_names" "_law_names" sNames f fd) (c_name : Cal P w K mg base CX0 2 "_law_name" ["_law_source_here", "_law_taken"] (spName K)) (mRange : mg "range" = none) (mList : mg "list" = none) : FnOk P w K mg base CX0 3 f fd ["_law_source_here", "_law_many"] spNames := by
  refine F.ok scNames (fun vs H Q E h => ?_) (fun cdv A outer s H vs Q E hr h => ?_)
  · obtain ⟨a, many, n, rfl, _⟩ := h
    rfl
  · obtain ⟨a, many, n, rfl, m16, S, k⟩ := h
    have hr_name := hr
    refine ⟨_, (pss_cons (ps_set (i := 2) scNames.nd rfl (by first | exact Or.inl rfl | exact Or.inr rfl) (pe_lst pa_nil))
      (pss_cons (ps_for PassesOwn.never rfl (pi_range1 (by rfl) mRange (pa_cons (pv 1) pa_nil)) (pg_name (i := 3) scNames.nd rfl (by first | exact Or.inl rfl | exact Or.inr rfl))
        (pss_one (ps_expr (pe_bm PySem.F.plainAttrs_list PySem.F.slot_list_append PySem.F.type_list_append mt_append (pv 2) (pa_cons (pe_cal c_name hr_name pass0 (pa_cons (pv 0) (pa_cons (pe_callTy (k_list K) (by rfl) mList (by decide +kernel) (pa_cons (pv 2) pa_nil)) pa_nil))) pa_nil)))))
      (pss_one (ps_ret (pv 2))))), ?_⟩
    refine ⟨(by show 0 ≤ sizeLine; decide), fun p hp => ⟨_, rfl, many, rfl, by omega, by omega, ?_⟩⟩
    refine for_range (lo := 0) (n := many) (fun i σ H' => ∃ (zs : List Str) (vk : Option V), σ = [some (.ref a), some (.int many), some (.ref p), vk] ∧ zs.length = i ∧ zs.Nodup ∧ (∀ z ∈ zs, DrN z) ∧ H' p = some (.lst (zs.map V.str)) ∧ Kp a H H' ∧ Src H' a (n + 10 * (many - i)))
      ⟨[], none, rfl, rfl, List.nodup_nil, (by simp), upd_same, Kp.new hp, S.new hp⟩ ?_ ?_
    · rintro i σ H1 hi ⟨zs, vk, rfl, hl, nd, nm, h1, k1, S1⟩
      have pa : p ≠ a := S.ne hp
      refine ⟨_, rfl, .inl ⟨rfl, _, .of h1⟩, _, rfl, _, rfl, p, _, rfl, .inl (.of h1), fun l hl' => ?_⟩
      refine ⟨a, l, zs, n + 10 * (many - (i + 1)), rfl, (S1.new hl').mono (by omega), S1.ne hl', .of upd_same, by omega, fun z H2 nz fz k2 S2 => ?_⟩
      have h2 : H2 p = some (.lst (zs.map V.str)) := k2 _ _ pa ((Same.new hl') _ _ h1)
      refine ⟨p, _, _, rfl, rfl, h2, ?_, ?_⟩
      · rw [List.length_map]
        exact Nat.lt_of_lt_of_le (by omega : zs.length < 16) (by decide)
      · refine ⟨zs ++ [z], _, rfl, by rw [List.length_append, hl]; rfl, ?_, fun y hy => ?_, by rw [upd_same, List.map_append]; rfl, ?_, S2.put pa⟩
        · exact List.nodup_append.mpr ⟨nd, List.nodup_cons.mpr ⟨by simp, List.nodup_nil⟩, fun y hy u hu e => fz (by rw [List.mem_singleton.mp hu] at e; exact e ▸ hy)⟩
        · rcases List.mem_append.mp hy with hy | hy
          · exact nm y hy
          · rw [List.mem_singleton.mp hy]; exact nz
        · exact ((k1.trans (Kp.new hl')).trans k2).mut hp
    · rintro σ H1 ⟨zs, vk, rfl, hl, nd, nm, h1, k1, S1⟩
      exact ⟨_, rfl, k p zs H1 hl nd nm hp h1 k1 (S1.mono (by omega))⟩
end
end Mf
namespace Mf
open PySem L2
section
variable {P : Program} {w : World} {K : PySem.W.Frag} {mg : Str → Option Value} {base : Heap} {Cp C : Addr}
/-! ### _law_step -/
def GoodS (ns : List Str) (s : Step) : Prop := stepB s.1 s.2 = true ∧ (s.1 ∈ calling → s.2 ∈ ns)
theorem atI_str {zs : List Str} {v : Int} (h0 : 0 ≤ v) (h : v < zs.length) : ∃ z ∈ zs, atI (zs.map V.str) v = some (.str z) := by
  obtain ⟨x, hx, e⟩ := atI_mem (xs := zs.map V.str) h0 (by rw [List.length_map]; exact h)
  obtain ⟨z, hz, rfl⟩ := List.mem_map.mp hx
  exact ⟨z, hz, e⟩
theorem Kp.free {a t : Addr} {H H' : Hp} {n m : Nat} (x : Kp a H H') (_S : Src H a n) (h : H' t = none) (S' : Src H' a m) : H t = none := by
  cases e : H t with
  | none => rfl
  | some o =>
    have q := x t o (S'.ne h) e
    rw [h] at q; cases q
theorem calling_kinds : ∀ z ∈ calling, z ∈ kinds := by decide +kernel
theorem stepB_of {kd wd : Str} (h : kd ∈ kinds) (h2 : IsName wd) : stepB kd wd = true := by
  unfold stepB
  rw [decide_eq_true h, (nameB_iff wd).mpr h2]; rfl
end
end Mf
namespace Mf
open PySem L2
section
variable {P : Program} {w : World} {K : PySem.W.Frag} {mg : Str → Option Value} {base : Heap} {Cp C : Addr}
/-! ### a row of steps, drawn -/
theorem paired_mem {α β : Type} {R : α → β → Prop} {xs : List α} {ys : List β} (r : Paired R xs ys) : Paired (fun x y => R x y ∧ y ∈ ys) xs ys := by
  induction r with
  | nil => exact .nil
  | cons a _ ih => exact .cons ⟨a, List.mem_cons_self⟩ (paired_same ih fun _ _ q => ⟨q.1, List.mem_cons_of_mem _ q.2⟩)
theorem paired_app {α β : Type} {R : α → β → Prop} {xs xs' : List α} {ys ys' : List β} (r : Paired R xs ys) (r' : Paired R xs' ys') : Paired R (xs ++ xs') (ys ++ ys') := by
  induction r with
  | nil => exact r'
  | cons a _ ih => exact .cons a ih
/-! ### _law_program, _law_any_program -/
/-- a procedure in a list of the law's own -/
def PrL (H : Hp) (p : Addr) (r : Pr) : Prop := H p = some (.tup [.str r.name, .ref r.b]) ∧ H r.b = some (.lst (r.ts.map V.ref)) ∧ StA H r.ts r.ss
def LisP (H : Hp) (a : Addr) (ps : List Addr) (rs : List Pr) : Prop := H a = some (.lst (ps.map V.ref)) ∧ Paired (PrL H) ps rs
theorem PrL.same {H H' : Hp} {p : Addr} {r : Pr} (x : PrL H p r) (h : Same H H') : PrL H' p r := ⟨h _ _ x.1, h _ _ x.2.1, x.2.2.same h⟩
theorem PrL.kp {H H' : Hp} {p a : Addr} {r : Pr} {n : Nat} (x : PrL H p r) (h : Kp a H H') (S : Src H a n) : PrL H' p r := ⟨h.noL S _ _ noL_tup x.1, h _ _ (refs_ne S x.2.1) x.2.1, x.2.2.sameN (h.noL S)⟩
theorem LisP.same {H H' : Hp} {a : Addr} {ps : List Addr} {rs : List Pr} (x : LisP H a ps rs) (h : Same H H') : LisP H' a ps rs := ⟨h _ _ x.1, paired_same x.2 fun _ _ q => q.same h⟩
theorem LisP.kp {H H' : Hp} {a b : Addr} {ps : List Addr} {rs : List Pr} {n : Nat} (x : LisP H a ps rs) (h : Kp b H H') (S : Src H b n) : LisP H' a ps rs := ⟨h _ _ (refs_ne S x.1) x.1, paired_same x.2 fun _ _ q => q.kp h S⟩
/-- a list at p changes, that is no body here -/
theorem PrL.put {H : Hp} {p q : Addr} {r : Pr} {o : HO} {xs : List V} (x : PrL H q r) (h : H p = some (.lst xs)) (n : r.b ≠ p) : PrL (upd H p o) q r :=
  ⟨by rw [upd_ne (fun e => by have := x.1; rw [e, h] at this; cases this)]; exact x.1, by rw [upd_ne n]; exact x.2.1, x.2.2.sameN (SameN.refl.put h)⟩
theorem rightP_of {rs : List Pr} {ns : List Str} (e : rs.map Pr.name = ns) (nd : ns.Nodup) (l : ns.length ≤ 16) (ne : ns ≠ []) (nm : ∀ z ∈ ns, IsName z) (b : ∀ r ∈ rs, r.ss.length ≤ 12 ∧ ∀ s ∈ r.ss, GoodS ns s) : RightP rs := by
  subst e
  refine ⟨by simpa using l, fun e => ne (by rw [e]; rfl), nd, fun r hr => ⟨nm _ (List.mem_map.mpr ⟨r, hr, rfl⟩), ?_, fun s hs => Nat.le_trans (stepB_name ((b r hr).2 s hs).1).len (by decide)⟩, fun r hr s hs => ((b r hr).2 s hs).2⟩
  unfold bodyB
  rw [decide_eq_true (b r hr).1, Bool.true_and]
  exact List.all_eq_true.mpr fun s hs => ((b r hr).2 s hs).1
end
end Mf
namespace Mf
open PySem L2
section
variable {P : Program} {w : World} {K : PySem.W.Frag} {mg : Str → Option Value} {base : Heap} {Cp C : Addr}
/-! ### _law_copy -/
theorem pls_snoc {rs : List Pr} {r : Pr} : pls (rs ++ [r]) = pls rs ++ [(r.name, r.ss)] := by unfold pls; rw [List.map_append]; rfl
theorem pls_take {rs : List Pr} {i : Nat} : pls (rs.take i) = (pls rs).take i := by unfold pls; rw [List.map_take]
def readsC (x : List Pc) : List Str := (x.map fun r => readsIn r.2).flatten
theorem readsOf_pls (rs : List Pr) : readsOf rs = readsC (pls rs) := by unfold readsOf readsC pls; rw [List.map_map]; rfl
theorem pls_mem {rs : List Pr} {r : Pr} (h : r ∈ rs) : (r.name, r.ss) ∈ pls rs := List.mem_map.mpr ⟨r, h, rfl⟩
theorem rightP_pls {rs es : List Pr} (e : pls es = pls rs) (R : RightP rs) : RightP es := by
  have l : es.length = rs.length := by have := congrArg List.length e; simpa [pls] using this
  have n : es.map Pr.name = rs.map Pr.name := by rw [← pls_names, ← pls_names, e]
  have back : ∀ r ∈ es, ∃ q ∈ rs, q.name = r.name ∧ q.ss = r.ss := fun r hr => by
    have m := pls_mem hr
    rw [e] at m
    obtain ⟨q, hq, he⟩ := List.mem_map.mp m
    exact ⟨q, hq, congrArg Prod.fst he, congrArg Prod.snd he⟩
  refine ⟨by rw [l]; exact R.few, fun z => R.ne (List.length_eq_zero_iff.mp (by rw [← l, z]; rfl)), by rw [n]; exact R.nd, fun r hr => ?_, fun r hr s hs hc => ?_⟩
  · obtain ⟨q, hq, h1, h2⟩ := back r hr
    have := R.ri q hq
    unfold Right at this ⊢
    rw [← h1, ← h2]; exact this
  · obtain ⟨q, hq, h1, h2⟩ := back r hr
    rw [n]
    exact R.ca q hq s (by rw [h2]; exact hs) hc
theorem paired_has {α β : Type} {R : α → β → Prop} {xs : List α} {ys : List β} (r : Paired R xs ys) {y : β} (h : y ∈ ys) : ∃ x, R x y := by
  induction r with
  | nil => cases h
  | cons a _ ih =>
    rcases List.mem_cons.mp h with q | q
    · exact ⟨_, q ▸ a⟩
    · exact ih q
end
end Mf
namespace Mf
open PySem L2
section
variable {P : Program} {w : World} {K : PySem.W.Frag} {mg : Str → Option Value} {base : Heap} {Cp C : Addr}
/-! ### the methods of Program -/
structure PgOps (P : Program) (w : World) (K : PySem.W.Frag) (mg : Str → Option Value) (base : Heap) (Cp : Addr) : Prop where
  eq : CalM P w K mg base CX0 2 Cp "__eq__" ["self", "other"] (spPgEq K Cp)
  get : CalM P w K mg base CX0 1 Cp "__getitem__" ["self", "name"] (spPgGet K Cp)
  has : CalM P w K mg base CX0 1 Cp "__contains__" ["self", "name"] (spPgHas K Cp)
  len : CalM P w K mg base CX0 1 Cp "__len__" ["self"] (spPgLen K Cp)
  ne : PySem.W.findIn K (.ref Cp) "__ne__" = some (some (.builtin "object.__ne__"))
theorem pls_get {es rs : List Pr} (e : pls es = pls rs) {i : Nat} {r : Pr} (h : es[i]? = some r) : ∃ q, rs[i]? = some q ∧ q.name = r.name ∧ q.ss = r.ss := by
  have h1 : (pls es)[i]? = some (r.name, r.ss) := by unfold pls; rw [List.getElem?_map, h]; rfl
  rw [e] at h1
  unfold pls at h1
  rw [List.getElem?_map] at h1
  obtain ⟨q, hq, he⟩ := Option.map_eq_some_iff.mp h1
  exact ⟨q, hq, congrArg Prod.fst he, congrArg Prod.snd he⟩
theorem pls_len {es rs : List Pr} (e : pls es = pls rs) : es.length = rs.length := by have := congrArg List.length e; simpa [pls] using this
theorem pls_nms {es rs : List Pr} (e : pls es = pls rs) : es.map Pr.name = rs.map Pr.name := by rw [← pls_names, ← pls_names, e]
end
end Mf
namespace Mf
open PySem L2
section
variable {P : Program} {w : World} {K : PySem.W.Frag} {mg : Str → Option Value} {base : Heap} {Cp C : Addr}
/-! ### _law_some_program -/
theorem paired_take {α β : Type} {R : α → β → Prop} {xs : List α} {ys : List β} (r : Paired R xs ys) : ∀ n, Paired R (xs.take n) (ys.take n) := by
  induction r with
  | nil => intro n; rw [List.take_nil, List.take_nil]; exact .nil
  | cons a _ ih =>
    intro n
    cases n with
    | zero => exact .nil
    | succ n => exact .cons a (ih n)
theorem paired_drop {α β : Type} {R : α → β → Prop} {xs : List α} {ys : List β} (r : Paired R xs ys) : ∀ n, Paired R (xs.drop n) (ys.drop n) := by
  induction r with
  | nil => intro n; rw [List.drop_nil, List.drop_nil]; exact .nil
  | cons a h ih =>
    intro n
    cases n with
    | zero => exact .cons a h
    | succ n => exact ih n
end
end Mf
namespace Mf
open PySem L2
section
variable {P : Program} {w : World} {K : PySem.W.Frag} {mg : Str → Option Value} {base : Heap} {C : Addr}
abbrev psSO : List Str := ["self", "other"]
/-- what stands on the right of an == -/
def Oth (K : PySem.W.Frag) (C : Addr) (H : Hp) (y : V) (ms : List Str) (b : Bool) : Prop := (∃ q ns, y = .ref q ∧ NSet C H q ns ∧ b = decide (ms = ns)) ∨ ∃ t, TyX K H y t ∧ PySem.W.kitOne K t (.ref C) = some false ∧ b = false
def spNsEq (K : PySem.W.Frag) (C : Addr) : Sp := fun vs H Q _ => ∃ (p : Addr) (ms : List Str) (y : V) (b : Bool), vs = [.ref p, y] ∧ NSet C H p ms ∧ Oth K C H y ms b ∧ Q (.bl b) H
abbrev sNameSetEq : Stmt := inClass (top 6) 1
theorem scNameSetEq : FnScope ["self", "other"] ["self", "other"] (defScope sNameSetEq) := ⟨rfl, rfl, rfl, by decide +kernel, rfl, by decide +kernel, by decide +kernel⟩
theorem ok_nsEq {f : Addr} {fd : FuncData} (F : Fun K "__eq__" "NameSet.__eq__" sNameSetEq f fd) (T : NsC K mg C) : FnOk P w K mg base CX0 1 f fd psSO (spNsEq K C) := by
  refine F.ok scNameSetEq (fun vs H Q E h => ?_) (fun cdv A outer s H vs Q E hr h => ?_)
  · obtain ⟨p, ms, y, b, rfl, _⟩ := h
    rfl
  · obtain ⟨p, ms, y, b, rfl, hN, ho, k⟩ := h
    have mIsi := T.mIsi; have mg_NameSet := T.mgC
    refine ⟨_, (pss_one (ps_ret (pe_and (pe_callB (k_isi K) (by rfl) mIsi (by decide +kernel) (pa_cons (pv 1) (pa_cons (pe_glob (v := .ref _) rfl mg_NameSet rfl) pa_nil))) (pe_one (pe_cmpR (eqD K hr) (fldK K (pv 0)) (fldK K (pv 1)) (nomark _)))))), ?_⟩
    obtain ⟨dx, t, h1, h2, up, few, ok⟩ := hN
    rcases ho with ⟨q, ns, rfl, ⟨dy, u, g1, g2, up2, few2, ok2⟩, rfl⟩ | ⟨ty, hy, e, rfl⟩
    · refine ⟨_, rfl, _, _, _, _, true, rfl, .own C, T.isi g1, T.ins.me, _, rfl, iteT ⟨_, rfl, p, C, dx, _, _, rfl, h1, T.ins.cl, T.nM, flM_get t, _, rfl, q, C, dy, _, _, rfl, g1, T.ins.cl, T.nM, flM_get u, ?_⟩⟩
      refine ⟨_, _, .tup (.of h2) (dpS ms), .tup (.of g2) (dpS ns), shT ok, shT ok2, ?_⟩
      show Q (.bl (PyData.eqvAll _ _)) H
      rw [eqvS]
      exact k
    · exact ⟨_, rfl, _, _, _, _, false, rfl, .own C, hy, e, _, rfl, iteF k⟩

def spNsLe (C : Addr) : Sp := fun vs H Q _ => ∃ (p q : Addr) (ms ns : List Str), vs = [.ref p, .ref q] ∧ NSet C H p ms ∧ NSet C H q ns ∧ ∀ H', Same H H' → Q (.bl (ms.all fun z => decide (z ∈ ns))) H'
abbrev sNameSetLe : Stmt := inClass (top 6) 2
theorem scNameSetLe : FnScope ["self", "other", "name"] ["self", "other"] (defScope sNameSetLe) := ⟨rfl, rfl, rfl, by decide +kernel, rfl, by decide +kernel, by decide +kernel⟩
theorem ok_nsLe {f : Addr} {fd : FuncData} (F : Fun K "__le__" "NameSet.__le__" sNameSetLe f fd) (T : NsC K mg C) : FnOk P w K mg base CX0 1 f fd psSO (spNsLe C) := by
  refine F.ok scNameSetLe (fun vs H Q E h => ?_) (fun cdv A outer s H vs Q E hr h => ?_)
  · obtain ⟨p, q, ms, ns, rfl, _⟩ := h
    rfl
  · obtain ⟨p, q, ms, ns, rfl, ⟨dx, t, h1, h2, up, few, ok⟩, ⟨dy, u, g1, g2, up2, few2, ok2⟩, k⟩ := h
    have mAll := T.mAll
    refine ⟨_, (pss_one (ps_ret (pe_callB (k_all K) (by rfl) mAll (by decide +kernel) (pa_cons (pe_lc (own := [("name", 2)]) (g := (gName 2)) (tt := tYes) rfl scNameSetLe.nd (pi_tup (fldK K (pv 0))) (blkOk_by (own := [("name", 2)]) (N := ["self", "other", "name"]) (sc := defScope sNameSetLe) (by decide +kernel)) (fun _ _ _ _ _ => (pg_name (i := 2) scNameSetLe.nd rfl (by first | exact Or.inl rfl | exact Or.inr rfl))) (fun _ _ _ _ _ => pts_nil) (fun _ _ _ _ _ => (pe_cmpR (oin K) (pv 2) (fldK K (pv 1)) (by rfl)))) pa_nil)))), ?_⟩
    refine ⟨_, rfl, p, C, dx, _, _, rfl, h1, T.ins.cl, T.nM, flM_get t, t, rfl, ⟨_, .of h2⟩, fun D hD => ?_⟩
    refine lc_it walk_tup (fun i H' => Same H H' ∧ H' D = some (.lst ((ms.take i).map fun z => V.bl (decide (z ∈ ns))))) ⟨Same.new hD, upd_same⟩ (fun i H' _ q => q.1.tup (.of h2)) ?_ ?_
    · rintro i x H1 _ hi ⟨s1, h3⟩ ⟨rfl, hx⟩
      rw [List.getElem?_map] at hx
      obtain ⟨z, hz, rfl⟩ := Option.map_eq_some_iff.mp hx
      rw [List.length_map] at hi
      refine ⟨rfl, yes_then ?_⟩
      refine ⟨_, rfl, _, rfl, q, C, dy, _, _, rfl, s1 _ _ g1, T.ins.cl, T.nM, flM_get u, u, _, rfl, .inr (.of (s1 _ _ g2)), rfl, flat_strs ns, _, h3, ?_, s1.mut hD, ?_⟩
      · rw [List.length_map]
        exact Nat.lt_of_le_of_lt (List.length_take_le _ _) (Nat.lt_of_lt_of_le (by omega : i < 4000) (by decide))
      · rw [upd_same, List.take_add_one, hz]
        show some (HO.lst (_ ++ [V.bl (inV (.str z) (ns.map V.str))])) = _
        rw [inV_str, List.map_append]
        rfl
    · rintro H1 ⟨s1, h3⟩
      have e : ((ms.take (ms.map V.str).length).map fun z => V.bl (decide (z ∈ ns))) = (ms.map fun z => decide (z ∈ ns)).map V.bl := by rw [List.length_map, List.take_length, List.map_map]; rfl
      rw [e] at h3
      refine ⟨D, _, rfl, .of h3, ?_⟩
      rw [List.all_map]
      exact k H1 s1
/-- what an operator that makes a set gives -/
def spNsOp (C : Addr) (g : List Str → List Str → Str → Prop) : Sp := fun vs H Q _ => ∃ (p q : Addr) (ms ns : List Str), vs = [.ref p, .ref q] ∧ NSet C H p ms ∧ NSet C H q ns ∧ ms.length + ns.length < 4000 ∧ ∀ r rs H', NSet C H' r rs → (∀ z, z ∈ rs ↔ g ms ns z) → Same H H' → Q (.ref r) H'
abbrev gOr : List Str → List Str → Str → Prop := fun ms ns z => z ∈ ms ∨ z ∈ ns
abbrev gAnd : List Str → List Str → Str → Prop := fun ms ns z => z ∈ ms ∧ z ∈ ns
abbrev gSub : List Str → List Str → Str → Prop := fun ms ns z => z ∈ ms ∧ z ∉ ns
abbrev sNameSetOr : Stmt := inClass (top 6) 4
theorem scNameSetOr : FnScope ["self", "other"] ["self", "other"] (defScope sNameSetOr) := ⟨rfl, rfl, rfl, by decide +kernel, rfl, by decide +kernel, by decide +kernel⟩
theorem ok_nsOr {f : Addr} {fd : FuncData} (F : Fun K "__or__" "NameSet.__or__" sNameSetOr f fd) (T : NsC K mg C) (mk : CalN P w K mg base C []) : FnOk P w K mg base CX0 3 f fd psSO (spNsOp C gOr) := by
  refine F.ok scNameSetOr (fun vs H Q E h => ?_) (fun cdv A outer s H vs Q E hr h => ?_)
  · obtain ⟨p, q, ms, ns, rfl, _⟩ := h
    rfl
  · obtain ⟨p, q, ms, ns, rfl, ⟨dx, t, h1, h2, up, few, ok⟩, ⟨dy, u, g1, g2, up2, few2, ok2⟩, fw, k⟩ := h
    refine ⟨_, (pss_one (ps_ret (pe_mkc mk hr pass0 (pa_cons (pe_op op_catA (fldK K (pv 0)) (fldK K (pv 1))) pa_nil)))), ?_⟩
    have two : ∀ z ∈ ms ++ ns, PyData.strOk z = true := fun z hz => (List.mem_append.mp hz).elim (ok z) (ok2 z)
    refine ⟨_, rfl, p, C, dx, _, _, rfl, h1, T.ins.cl, T.nM, flM_get t, _, rfl, q, C, dy, _, _, rfl, g1, T.ins.cl, T.nM, flM_get u, ?_⟩
    refine ⟨t, u, ms.map V.str, ns.map V.str, rfl, rfl, .of h2, .of g2, ?_⟩
    have few3 : (ms ++ ns).length < 4000 := by rw [List.length_append]; exact fw
    refine ⟨Nat.le_trans (by rw [List.length_map, List.length_map]; omega : _ ≤ 4000) (by decide), fun e => ?_, fun e e2 => ?_, fun e e2 r nr => ?_⟩
    · obtain rfl := List.map_eq_nil_iff.mp e
      refine make_ns (.tup g2) few2 ok2 fun r rs H' n m _ s => k r rs H' n (fun z => ?_) s
      rw [m z]; simp
    · obtain rfl := List.map_eq_nil_iff.mp e2
      refine make_ns (.tup h2) few ok fun r rs H' n m _ s => k r rs H' n (fun z => ?_) s
      rw [m z]; simp
    · rw [← List.map_append]
      refine make_ns (.tup upd_same) few3 two fun r2 rs H' n m _ s => k r2 rs H' n (fun z => ?_) ((Same.new nr).trans s)
      rw [m z, List.mem_append]

def spNsIn (C : Addr) : Sp := fun vs H Q _ => ∃ (p : Addr) (ms : List Str) (z : Str), vs = [.ref p, .str z] ∧ NSet C H p ms ∧ Q (.bl (decide (z ∈ ms))) H
abbrev sNameSetContains : Stmt := inClass (top 6) 7
theorem scNameSetContains : FnScope ["self", "name"] ["self", "name"] (defScope sNameSetContains) := ⟨rfl, rfl, rfl, by decide +kernel, rfl, by decide +kernel, by decide +kernel⟩
theorem ok_nsIn {f : Addr} {fd : FuncData} (F : Fun K "__contains__" "NameSet.__contains__" sNameSetContains f fd) (T : NsC K mg C) : FnOk P w K mg base CX0 1 f fd ["self", "name"] (spNsIn C) := by
  refine F.ok scNameSetContains (fun vs H Q E h => ?_) (fun cdv A outer s H vs Q E hr h => ?_)
  · obtain ⟨p, ms, z, rfl, _⟩ := h
    rfl
  · obtain ⟨p, ms, z, rfl, ⟨dx, t, h1, h2, up, few, ok⟩, k⟩ := h
    refine ⟨_, (pss_one (ps_ret (pe_cmpR (oin K) (pv 1) (fldK K (pv 0)) (by rfl)))), ?_⟩
    refine ⟨_, rfl, _, rfl, p, C, dx, _, _, rfl, h1, T.ins.cl, T.nM, flM_get t, t, _, rfl, .inr (.of h2), rfl, flat_strs ms, ?_⟩
    show Q (.bl (inV (.str z) (ms.map V.str))) H
    rw [inV_str]
    exact k
structure NsO (P : Program) (w : World) (K : PySem.W.Frag) (mg : Str → Option Value) (base : Heap) (C : Addr) : Prop where
  eq : CalM P w K mg base CX0 1 C "__eq__" psSO (spNsEq K C)
  le : CalM P w K mg base CX0 1 C "__le__" psSO (spNsLe C)
  or_ : CalM P w K mg base CX0 3 C "__or__" psSO (spNsOp C gOr)
  has : CalM P w K mg base CX0 1 C "__contains__" ["self", "name"] (spNsIn C)
  ne : PySem.W.findIn K (.ref C) "__ne__" = some (some (.builtin "object.__ne__"))
  sf : PySem.W.selfFirst K C = true
theorem NsC.below {H : Hp} {q : Addr} {ms : List Str} (T : NsC K mg C) (h : NSet C H q ms) : NotBelow K C (.ref q) H :=
  let ⟨_, _, h1, _⟩ := h
  ⟨.ref C, T.isi h1, by simp [PySem.W.notFirst]⟩
theorem NSet.ins {H : Hp} {q : Addr} {ms : List Str} (h : NSet C H q ms) : ∃ dx fs, H q = some (.ins C dx fs) := let ⟨dx, _, h1, _⟩ := h; ⟨dx, _, h1⟩
end
end Mf
namespace Mf
open PySem L2
section
variable {P : Program} {w : World} {K : PySem.W.Frag} {mg : Str → Option Value} {base : Heap} {Cp C : Addr}
/-! ### paths_from -/
/-- a dict of paths: its keys, each with a tuple of texts -/
structure Pth (K : PySem.W.Frag) (H : Hp) (kvs : List (Key × V)) (ks : List Str) : Prop where
  e : kvs.map (·.1) = ks.map Sum.inr
  v : ∀ kv ∈ kvs, ∃ (u : Addr) (zs : List Str), kv.2 = .ref u ∧ SqT K H u (zs.map V.str) ∧ zs ≠ [] ∧ zs.length ≤ kvs.length
theorem Pth.len {H : Hp} {kvs : List (Key × V)} {ks : List Str} (h : Pth K H kvs ks) : kvs.length = ks.length := by
  have := congrArg List.length h.e
  simpa using this
theorem Pth.sameT {H H' : Hp} {kvs : List (Key × V)} {ks : List Str} (h : Pth K H kvs ks) (s : SameT H H') : Pth K H' kvs ks :=
  ⟨h.e, fun kv hkv => let ⟨u, zs, a, b, c⟩ := h.v kv hkv; ⟨u, zs, a, s.tup b, c⟩⟩
theorem Pth.same {H H' : Hp} {kvs : List (Key × V)} {ks : List Str} (h : Pth K H kvs ks) (s : Same H H') : Pth K H' kvs ks := h.sameT (.of s)
theorem Pth.keys {H : Hp} {kvs : List (Key × V)} {ks : List Str} (h : Pth K H kvs ks) : (kvs.map fun kv => kV kv.1) = ks.map V.str := by
  have e : (kvs.map fun kv => kV kv.1) = (kvs.map (·.1)).map kV := by rw [List.map_map]; rfl
  rw [e, h.e, List.map_map]; rfl
theorem StA.sameT {H H' : Hp} {ts : List Addr} {ss : List (Str × Str)} (x : StA H ts ss) (h : SameT H H') : StA H' ts ss := by
  induction x with
  | nil => exact .nil
  | cons a _ ih => exact .cons (h _ _ noLD_tup a) ih
theorem Pth.none {H : Hp} {kvs : List (Key × V)} {ks : List Str} (h : Pth K H kvs ks) {z : Str} (n : ¬ z ∈ ks) : valV kvs (Sum.inr z) = none := by
  cases e : valV kvs (Sum.inr z) with
  | none => rfl
  | some v =>
    exfalso
    unfold valV at e
    obtain ⟨kv, h1, h2⟩ := Option.map_eq_some_iff.mp e
    have h3 : kv.1 ∈ kvs.map (·.1) := List.mem_map.mpr ⟨kv, List.mem_of_find?_eq_some h1, rfl⟩
    have h4 : kv.1 = Sum.inr z := of_decide_eq_true (List.find?_some (p := fun kv : Key × V => decide (kv.1 = Sum.inr z)) h1)
    rw [h.e, h4] at h3
    obtain ⟨y, hy, e2⟩ := List.mem_map.mp h3
    cases e2
    exact n hy
theorem Pth.some {H : Hp} {kvs : List (Key × V)} {ks : List Str} (h : Pth K H kvs ks) {z : Str} (n : z ∈ ks) : ∃ (u : Addr) (zs : List Str), valV kvs (Sum.inr z) = some (.ref u) ∧ SqT K H u (zs.map V.str) ∧ zs ≠ [] ∧ zs.length ≤ kvs.length := by
  have h1 : (Sum.inr z : Key) ∈ kvs.map (·.1) := by rw [h.e]; exact List.mem_map.mpr ⟨z, n, rfl⟩
  obtain ⟨kv, h2, h3⟩ := List.mem_map.mp h1
  obtain ⟨v, hv⟩ := some_val (kvs := kvs) (k := Sum.inr z) (List.any_eq_true.mpr ⟨kv, h2, decide_eq_true h3⟩)
  have hv' := hv
  unfold valV at hv'
  obtain ⟨kv', h4, h5⟩ := Option.map_eq_some_iff.mp hv'
  obtain ⟨u, zs, a, b, c⟩ := h.v kv' (List.mem_of_find?_eq_some h4)
  rw [← h5, a] at hv
  exact ⟨u, zs, hv, b, c⟩
theorem Pth.snoc {H : Hp} {kvs : List (Key × V)} {ks ys : List Str} {z : Str} {u : Addr} (h : Pth K H kvs ks) (n : ¬ z ∈ ks) (sq : SqT K H u (ys.map V.str)) (ne : ys ≠ []) (l : ys.length ≤ kvs.length + 1) : Pth K H (putK kvs (Sum.inr z) (.ref u)) (ks ++ [z]) := by
  rw [putK_new _ (h.none n)]
  refine ⟨by rw [List.map_append, List.map_append, h.e]; rfl, fun kv hkv => ?_⟩
  rw [List.length_append]
  rcases List.mem_append.mp hkv with q | q
  · obtain ⟨u, zs, a, b, c, d⟩ := h.v kv q
    exact ⟨u, zs, a, b, c, Nat.le_trans d (Nat.le_succ _)⟩
  · rw [List.mem_singleton.mp q]
    exact ⟨u, ys, rfl, sq, ne, l⟩
def spPaths (K : PySem.W.Frag) (Cp C : Addr) : Sp := fun vs H Q _ => ∃ (p nl kn lo : Addr) (rs : List Pr) (sts kds out : List Str), vs = [.ref p, .ref nl, .ref kn, .ref lo] ∧ Prg K Cp H p rs ∧ (SqL K H nl (sts.map V.str) ∨ SqT K H nl (sts.map V.str)) ∧ sts.Nodup ∧ (∀ z ∈ sts, z ∈ rs.map Pr.name) ∧
  SqT K H kn (kds.map V.str) ∧ (∀ z ∈ kds, z ∈ calling) ∧ NSet C H lo out ∧
  ∀ (d : Addr) (kvs : List (Key × V)) (ks : List Str) (H' : Hp), Same H H' → H d = none → H' d = some (.dK kvs) → kvs.map (·.1) = ks.map Sum.inr → ks.Nodup → ks.length ≤ 16 → (∀ z, z ∈ ks ↔ Rch (Suc (pls rs) kds) (· ∈ out) (· ∈ sts) z) → (∀ z ∈ ks, z ∈ rs.map Pr.name) → Q (.ref d) H'
theorem suc_in {rs : List Pr} {kds : List Str} (R : RightP rs) (kc : ∀ z ∈ kds, z ∈ calling) {y z : Str} (s : Suc (pls rs) kds y z) : z ∈ rs.map Pr.name := by
  obtain ⟨ss, h, s, hs, hk, rfl⟩ := s
  unfold pls at h
  obtain ⟨r, hr, e⟩ := List.mem_map.mp h
  cases e
  exact R.ca r hr s hs (kc _ hk)
theorem rch_in {rs : List Pr} {kds sts : List Str} {out : Str → Prop} (R : RightP rs) (kc : ∀ z ∈ kds, z ∈ calling) (hs : ∀ z ∈ sts, z ∈ rs.map Pr.name) {z : Str} (h : Rch (Suc (pls rs) kds) out (· ∈ sts) z) : z ∈ rs.map Pr.name :=
  h.sub (fl := fun z => z ∈ rs.map Pr.name) (fun z a _ => hs z a) fun _ _ _ s _ => suc_in R kc s
theorem few_in {rs : List Pr} {ks : List Str} (R : RightP rs) (nd : ks.Nodup) (h : ∀ z ∈ ks, z ∈ rs.map Pr.name) : ks.length ≤ 16 := by
  have a := nodup_le nd h
  have b := R.few
  rw [List.length_map] at a
  omega
def muP (i : Nat) : L2.St → Hp → Nat := fun σ _ => match σ[i]? with
  | some (some (.int v)) => 17 - v.toNat
  | _ => 0
/-- what the walk of paths_from keeps: the dict and the list of what was found -/
structure PfI (K : PySem.W.Frag) (H0 H : Hp) (D F : Addr) (rs : List Pr) (sts kds out : List Str) (fl : List Str) : Prop where
  d : ∃ kvs, H D = some (.dK kvs) ∧ Pth K H kvs fl
  f : H F = some (.lst (fl.map V.str))
  nd : fl.Nodup
  rc : ∀ z ∈ fl, Rch (Suc (pls rs) kds) (· ∈ out) (· ∈ sts) z
  st : ∀ z ∈ sts, ¬ z ∈ out → z ∈ fl
  s : Same H0 H
abbrev sPaths_from : Stmt := top 29
theorem scPaths_from : FnScope ["program", "names", "kinds", "left_out", "paths", "found", "at", "caller", "name", "kind", "callee"] ["program", "names", "kinds", "left_out"] (defScope sPaths_from) := ⟨rfl, rfl, rfl, by decide +kernel, rfl, by decide +kernel, by decide +kernel⟩
set_option maxHeartbeats 1000000 in
theorem ok_paths {f : Addr} {fd : FuncData} {dvs : List V} {kws : List (Str × V)} {ar : Arguments} (F : FunD K "paths_from" "paths_from" ar (defBody sPaths_from) (defScope sPaths_from) dvs kws f fd) (O : PgOps P w K mg base Cp) (ON : NsO P w K mg base C) (mLen : mg "len" = none) (mList : mg "list" = none) :
    FnOk P w K mg base CX0 3 f fd ["program", "names", "kinds", "left_out"] (spPaths K Cp C) := by
  refine funD_ok F scPaths_from (fun vs H Q E h => ?_) (fun cdv A outer s H vs Q E hr h => ?_)
  · obtain ⟨p, nl, kn, lo, rs, sts, kds, out, rfl, _⟩ := h
    rfl
  · obtain ⟨p, nl, kn, lo, rs, sts, kds, out, rfl, hP, hn, nds, sin, hk, kc, ho, k⟩ := h
    have hu : (A.deeper (PyProof.Rows.envOfC "paths_from" (defScope sPaths_from) s.heap.objs.size f cdv)).units + 1 < cLine := by have := hr.units; omega
    have hr2 := hr.mono (by decide : 2 ≤ 2)
    have hr1 : Room 1 _ := hr.mono (by decide : 1 ≤ 2)
    obtain ⟨dxo, fo, io⟩ := ho.ins
    have R := (show RightP rs from let ⟨_, _, _, _, _, _, _, R, _⟩ := hP; R)
    refine ⟨_, (pss_cons (ps_setDc (i := 4) (own := [("name", 8)]) (g := (gName 8)) rfl scPaths_from.nd rfl rfl (sw_trueD rfl rfl rfl (by decide +kernel)) (piS K (pv 1)) (blkOk_by (own := [("name", 8)]) (N := ["program", "names", "kinds", "left_out", "paths", "found", "at", "caller", "name", "kind", "callee"]) (sc := defScope sPaths_from) (by decide +kernel)) (fun _ _ _ _ _ => (pg_name (i := 8) scPaths_from.nd rfl (by first | exact Or.inl rfl | exact Or.inr rfl))) (fun _ _ _ _ _ => pts_one (pt_cmpR (om_notIn ON.has hr1 pass0) (pv 8) (pv 3) (by rfl))) (fun _ _ _ _ _ => (pv 8)) (fun _ _ _ _ _ => (pe_tup (pa_cons (pv 8) pa_nil))))
      (pss_cons (ps_set (i := 5) scPaths_from.nd rfl (by first | exact Or.inl rfl | exact Or.inr rfl) (pe_callTy (call_list_dK rfl) (by rfl) mList (by decide +kernel) (pa_cons (pv 4) pa_nil)))
      (pss_cons (ps_set (i := 6) scPaths_from.nd rfl (by first | exact Or.inl rfl | exact Or.inr rfl) pe_int)
      (pss_cons (ps_while PassesOwn.never (pt_cmpR op_lt (pv 6) (pe_callB (k_len K) (by rfl) mLen (by decide +kernel) (pa_cons (pv 5) pa_nil)) (nomark _))
        (pss_cons (ps_set (i := 7) scPaths_from.nd rfl (by first | exact Or.inl rfl | exact Or.inr rfl) (pe_ix (ixl K) (pv 5) (pv 6) (fun _ _ => rfl)))
        (pss_cons (ps_for PassesOwn.never rfl (pi_tup (om_get O.get hr2 pass0 (pv 0) (pv 7))) (pg_tup rfl (pgs_cons (pg_name (i := 9) scPaths_from.nd rfl (by first | exact Or.inl rfl | exact Or.inr rfl)) (pgs_cons (pg_name (i := 10) scPaths_from.nd rfl (by first | exact Or.inl rfl | exact Or.inr rfl)) pgs_nil)))
          (pss_one (ps_if (PW.pt (pw_and (pt_cmpR (oin K) (pv 9) (pv 2) (by rfl)) (pw_and (pt_cmpR (om_notIn ON.has hr1 pass0) (pv 10) (pv 3) (by rfl)) (pw_and1 (pt_cmp (pc_dnotin hu (pv 10) (pv 4)))))))
            (pss_cons (ps_asg (pe_op op_catT (pe_dget hu (pv 4) (pv 7) (fun _ _ => rfl)) (pe_tup (pa_cons (pv 10) pa_nil))) (pg_sub (pv 4) (pv 10) (set_dict hu)))
            (pss_one (ps_expr (pe_bm PySem.F.plainAttrs_list PySem.F.slot_list_append PySem.F.type_list_append mt_append (pv 5) (pa_cons (pv 10) pa_nil))))) pss_nil)))
        (pss_one (ps_aug (i := 6) scPaths_from.nd rfl (by first | exact Or.inl rfl | exact Or.inr rfl) pe_int ip_add)))))
      (pss_one (ps_ret (pv 4))))))), ?_⟩
    refine ⟨_, rfl, nl, _, rfl, hn, fun J G wk hG D hD => ?_⟩
    refine it_any wk (fun i H' => Same H H' ∧ ∃ kvs, H' D = some (.dK kvs) ∧ Pth K H' kvs ((sts.take i).filter fun z => decide (¬ z ∈ out))) ⟨Same.new hD, [], upd_same, ⟨rfl, fun _ h => by cases h⟩⟩ (fun i H' _ q => hG _ q.1) ?_ ?_
    · rintro i x _ H1 hi ⟨s1, kvs, hD1, pt⟩ ⟨rfl, hx⟩
      rw [List.getElem?_map] at hx
      obtain ⟨z, hz, rfl⟩ := Option.map_eq_some_iff.mp hx
      have tk : sts.take (i + 1) = sts.take i ++ [z] := by rw [List.take_add_one, hz]; rfl
      refine ⟨rfl, _, rfl, _, rfl, lo, dxo, _, rfl, s1 _ _ io, lo, out, z, rfl, ho.same s1, _, rfl, _, rfl, ?_⟩
      show if (!decide (z ∈ out)) = true then _ else _
      by_cases c : z ∈ out
      · rw [decide_eq_true c]
        refine iteF ⟨s1, kvs, hD1, ?_⟩
        rw [tk, List.filter_append, List.filter_cons_of_neg (by simpa using c), List.filter_nil, List.append_nil]
        exact pt
      · rw [decide_eq_false c]
        refine iteT ?_
        refine ⟨_, rfl, _, rfl, (by show 1 ≤ sizeLine; decide), fun t ht => ⟨kvs, Sum.inr z, rfl, (Same.new ht) _ _ hD1, ?_, (s1.trans (Same.new ht)).mut hD, _, upd_same, ?_⟩⟩
        · rw [pt.len]
          refine Nat.lt_of_le_of_lt (Nat.le_trans (List.length_filter_le _ _) (List.length_take_le _ _)) ?_
          have := few_in R nds sin
          rw [List.length_map] at hi
          exact Nat.lt_of_lt_of_le (by omega : i < 17) (by decide)
        · rw [tk, List.filter_append, List.filter_cons_of_pos (by simpa using c), List.filter_nil]
          refine ((pt.same (Same.new ht)).snoc (ys := [z]) (fun m => take_not nds hz (List.mem_filter.mp m).1) (.of upd_same) (by simp) (by simp)).sameT (SameT.putD .refl ((Same.new ht) _ _ hD1))
    · rintro H1 ⟨s1, kvs, hD1, pt⟩
      rw [List.length_map, List.take_length] at pt
      refine ⟨_, rfl, D, kvs, rfl, hD1, fun F hF => ?_⟩
      rw [pt.keys]
      have FD : F ≠ D := ne_none hF hD1
      have nF : H F = none := by
        cases e : H F with
        | none => rfl
        | some o => rw [s1 _ _ e] at hF; cases hF
      have I0 : PfI K H (upd H1 F (.lst ((sts.filter fun z => decide (¬ z ∈ out)).map V.str))) D F rs sts kds out (sts.filter fun z => decide (¬ z ∈ out)) :=
        ⟨⟨kvs, (Same.new hF) _ _ hD1, pt.same (Same.new hF)⟩, upd_same, nds.filter _, fun z hz => .base (List.mem_filter.mp hz).1 (by simpa using (List.mem_filter.mp hz).2), fun z a b => List.mem_filter.mpr ⟨a, by simpa using b⟩, s1.trans (Same.new hF)⟩
      generalize upd H1 F (.lst ((sts.filter fun z => decide (¬ z ∈ out)).map V.str)) = HA at I0
      generalize (sts.filter fun z => decide (¬ z ∈ out)) = fl0 at I0
      refine while_by (fun σ H' => ∃ (fl : List Str) (j : Nat) (v7 v8 v9 v10 : Option V), σ = [some (.ref p), some (.ref nl), some (.ref kn), some (.ref lo), some (.ref D), some (.ref F), some (.int (j : Nat)), v7, v8, v9, v10] ∧ PfI K H H' D F rs sts kds out fl ∧
        ∀ (i : Nat) (y : Str), i < j → fl[i]? = some y → ∀ z, Suc (pls rs) kds y z → ¬ z ∈ out → z ∈ fl) (muP 6) ⟨fl0, 0, none, none, none, none, rfl, I0, fun i y hi => absurd hi (Nat.not_lt_zero _)⟩ ?_ ?_
      · rintro σ HB ⟨fl, j, v7, v8, v9, v10, rfl, I, cl⟩
        have flin : ∀ z ∈ fl, z ∈ rs.map Pr.name := fun z hz => rch_in R kc sin (I.rc z hz)
        have few := few_in R I.nd flin
        refine ⟨_, rfl, _, rfl, F, _, rfl, .inl (.of I.f), _, _, rfl, rfl, _, rfl, ?_⟩
        rw [List.length_map]
        by_cases lt : j < fl.length
        · rw [decide_eq_true (by omega : (j : Int) < (fl.length : Nat))]
          refine iteT ?_
          have hy := List.getElem?_eq_getElem lt
          generalize fl[j] = y at hy
          obtain ⟨r, hrr, ey⟩ := List.mem_map.mp (flin y (List.mem_of_getElem? hy))
          have PB := hP.same I.s
          have hmy : (fl.map V.str)[j]? = some (.str r.name) := by rw [List.getElem?_map, hy, ey]; rfl
          obtain ⟨dxp, _, _, _, _, _, xp, _⟩ := id PB
          refine ⟨_, rfl, _, rfl, F, _, (j : Nat), _, rfl, rfl, .of I.f, atI_nat hmy, ?_⟩
          refine ⟨_, rfl, _, rfl, p, dxp, _, rfl, xp.o, p, rs, r, rfl, PB, hrr, fun u sq st => ⟨u, rfl, ⟨_, sq⟩, ?_⟩⟩
          have ymem : y ∈ fl := List.mem_of_getElem? hy
          refine for_it walk_tup (fun i σ H' => ∃ (fl' : List Str) (v8 v9 v10 : Option V), σ = [some (.ref p), some (.ref nl), some (.ref kn), some (.ref lo), some (.ref D), some (.ref F), some (.int (j : Nat)), some (.str r.name), v8, v9, v10] ∧ PfI K H H' D F rs sts kds out fl' ∧
            (∀ (i : Nat) (y : Str), fl[i]? = some y → fl'[i]? = some y) ∧ (∀ s ∈ r.ss.take i, s.1 ∈ kds → ¬ s.2 ∈ out → s.2 ∈ fl') ∧ SameT HB H') ⟨fl, v8, v9, v10, rfl, I, fun _ _ h => h, (by simp), .refl⟩ (fun i σ H' _ q => q.choose_spec.choose_spec.choose_spec.choose_spec.2.2.2.2.tup sq) ?_ ?_
          · rintro i x σ _ HC hi ⟨fl', w8, w9, w10, rfl, I', mo, nw, sT⟩ ⟨rfl, hx⟩
            rw [List.getElem?_map] at hx
            obtain ⟨t, ht, rfl⟩ := Option.map_eq_some_iff.mp hx
            obtain ⟨sp, hsp, hts⟩ := st.get ht
            have tk : r.ss.take (i + 1) = r.ss.take i ++ [sp] := by rw [List.take_add_one, hsp]; rfl
            have nwk : ∀ fl2 : List Str, (∀ z ∈ fl', z ∈ fl2) → (sp.1 ∈ kds → ¬ sp.2 ∈ out → sp.2 ∈ fl2) → ∀ s ∈ r.ss.take (i + 1), s.1 ∈ kds → ¬ s.2 ∈ out → s.2 ∈ fl2 := fun fl2 m h s hs a b => by
              rw [tk] at hs
              rcases List.mem_append.mp hs with q | q
              · exact m _ (nw s q a b)
              · rw [List.mem_singleton.mp q] at a b ⊢; exact h a b
            refine ⟨t, _, rfl, .of (sT _ _ noLD_tup hts), rfl, _, _, rfl, _, _, rfl, rfl, ?_⟩
            refine ⟨_, rfl, _, rfl, kn, _, rfl, .inr (I'.s.tup hk), rfl, flat_strs kds, _, rfl, ?_⟩
            show if inV (.str sp.1) (kds.map V.str) = true then _ else _
            rw [inV_str]
            refine ite2 (fun q1 => ?_) fun q1 => ⟨fl', w8, _, _, rfl, I', mo, nwk fl' (fun _ h => h) fun a _ => absurd (decide_eq_true a) q1, sT⟩
            refine ⟨_, rfl, _, rfl, lo, dxo, _, rfl, I'.s _ _ io, lo, out, sp.2, rfl, ho.same I'.s, _, rfl, _, rfl, ?_⟩
            show if (!decide (sp.2 ∈ out)) = true then _ else _
            by_cases q2 : sp.2 ∈ out
            · rw [decide_eq_true q2]
              exact iteF ⟨fl', w8, _, _, rfl, I', mo, nwk fl' (fun _ h => h) fun _ b => absurd q2 b, sT⟩
            rw [decide_eq_false q2]
            refine iteT ?_
            obtain ⟨kvs, hD1, pt⟩ := I'.d
            by_cases q3 : sp.2 ∈ fl'
            · obtain ⟨v, zs, hv, _⟩ := pt.some q3
              refine ⟨_, rfl, _, rfl, D, some (.ref v), rfl, .inl ⟨_, Sum.inr sp.2, .inl hD1, rfl, hv.symm⟩, _, rfl, iteF ?_⟩
              exact ⟨fl', w8, _, _, rfl, I', mo, nwk fl' (fun _ h => h) fun _ _ => q3, sT⟩
            · refine ⟨_, rfl, _, rfl, D, none, rfl, .inl ⟨_, Sum.inr sp.2, .inl hD1, rfl, (pt.none q3).symm⟩, _, rfl, iteT ?_⟩
              have ym : y ∈ fl' := List.mem_of_getElem? (mo _ _ hy)
              obtain ⟨v, zs, hv, hz, zne, zl⟩ := pt.some ym
              rw [← ey] at hv
              have lf := few_in R I'.nd fun z hz => rch_in R kc sin (I'.rc z hz)
              have big : (17 : Nat) < sizeLine := by decide
              refine ⟨_, rfl, _, rfl, D, .ref v, rfl, .inl ⟨_, Sum.inr r.name, .inl hD1, rfl, hv.symm⟩, _, rfl, (by show 1 ≤ sizeLine; decide), fun t1 ht1 => ?_⟩
              have lk := pt.len
              refine ⟨v, t1, _, _, rfl, rfl, (Same.new ht1).tup hz, .of upd_same, (by simpa using zne), (by rw [List.length_map, List.length_singleton]; omega), (fun e => nomatch e), fun _ t2 ht2 => ?_⟩
              have s2 : Same HC (upd (upd HC t1 (.tup [.str sp.2])) t2 (.tup (zs.map V.str ++ [.str sp.2]))) := (Same.new ht1).trans (Same.new ht2)
              have h2 : (upd (upd HC t1 (.tup [.str sp.2])) t2 (.tup (zs.map V.str ++ [.str sp.2]))) t2 = some (.tup ((zs ++ [sp.2]).map V.str)) := by rw [upd_same, List.map_append]; rfl
              generalize upd (upd HC t1 (.tup [.str sp.2])) t2 (.tup (zs.map V.str ++ [.str sp.2])) = HD at s2 h2
              have hF2 := s2 _ _ I'.f
              refine ⟨_, rfl, _, rfl, D, _, rfl, .inl ⟨kvs, Sum.inr sp.2, s2 _ _ hD1, rfl, (by omega), rfl⟩, ?_⟩
              have nD : H D = none := hD
              have sD : SameT HD (upd HD D (.dK (putK kvs (Sum.inr sp.2) (.ref t2)))) := SameT.putD .refl (s2 _ _ hD1)
              have hF3 : (upd HD D (.dK (putK kvs (Sum.inr sp.2) (.ref t2)))) F = some (.lst (fl'.map V.str)) := by rw [upd_ne FD]; exact hF2
              have pt3 : Pth K (upd HD D (.dK (putK kvs (Sum.inr sp.2) (.ref t2)))) (putK kvs (Sum.inr sp.2) (.ref t2)) (fl' ++ [sp.2]) :=
                ((pt.same s2).snoc q3 (ys := zs ++ [sp.2]) (.of h2) (by simp) (by rw [List.length_append, List.length_singleton]; omega)).sameT sD
              have hD3 : (upd HD D (.dK (putK kvs (Sum.inr sp.2) (.ref t2)))) D = some (.dK (putK kvs (Sum.inr sp.2) (.ref t2))) := upd_same
              have s3 : Same H (upd HD D (.dK (putK kvs (Sum.inr sp.2) (.ref t2)))) := (I'.s.trans s2).mut nD
              have sT3 : SameT HB (upd HD D (.dK (putK kvs (Sum.inr sp.2) (.ref t2)))) := (sT.trans (.of s2)).trans sD
              generalize upd HD D (.dK (putK kvs (Sum.inr sp.2) (.ref t2))) = HE at sD hF3 pt3 hD3 s3 sT3
              refine ⟨_, rfl, .inl ⟨rfl, _, .of hF3⟩, _, rfl, F, _, _, rfl, rfl, hF3, (by rw [List.length_map]; omega), ?_⟩
              refine ⟨fl' ++ [sp.2], w8, _, _, rfl, ⟨⟨_, by rw [upd_ne (Ne.symm FD)]; exact hD3, pt3.sameT (SameT.putL .refl hF3)⟩, by rw [upd_same, List.map_append]; rfl, ?_, fun z hz => ?_, fun z a b => List.mem_append_left _ (I'.st z a b), s3.mut nF⟩, fun i y h => ?_, nwk _ (fun z h => List.mem_append_left _ h) fun _ _ => List.mem_append_right _ (List.mem_singleton.mpr rfl), sT3.putL hF3⟩
              · rw [List.nodup_append]
                exact ⟨I'.nd, List.nodup_cons.mpr ⟨(by simp), List.nodup_nil⟩, fun a ha b hb e => q3 (by rw [← List.mem_singleton.mp hb, ← e]; exact ha)⟩
              · rcases List.mem_append.mp hz with q | q
                · exact I'.rc z q
                · rw [List.mem_singleton.mp q]
                  exact .step (I'.rc y ym) ⟨r.ss, List.mem_map.mpr ⟨r, hrr, by rw [ey]⟩, sp, List.mem_of_getElem? hsp, of_decide_eq_true q1, rfl⟩ q2
              · have q := mo i y h
                rw [List.getElem?_append_left (List.getElem?_eq_some_iff.mp q).1]
                exact q
          · rintro σ HC ⟨fl', w8, w9, w10, rfl, I', mo, nw, sT⟩
            refine ⟨_, rfl, _, _, rfl, rfl, ⟨fl', j + 1, _, w8, w9, w10, rfl, I', fun i x hi hx z sz no => ?_⟩, ?_⟩
            · by_cases e : i < j
              · have q : i < fl.length := by omega
                have h1 := mo i _ (List.getElem?_eq_getElem q)
                rw [h1] at hx
                cases hx
                have h2 := cl i _ e (List.getElem?_eq_getElem q) z sz no
                obtain ⟨m, hm⟩ := List.mem_iff_getElem?.mp h2
                exact List.mem_of_getElem? (mo m _ hm)
              · have e2 : i = j := by omega
                subst e2
                have h1 := mo _ _ hy
                rw [h1] at hx
                cases hx
                obtain ⟨s, hs, a, rfl⟩ := (Suc.one (x := pls rs) (by rw [pls_names]; exact R.nd) (List.mem_map.mpr ⟨r, hrr, by rw [ey]⟩)).mp sz
                have ls : (r.ts.map V.ref).length = r.ss.length := by rw [List.length_map]; exact Paired.length st
                exact nw s (by rw [ls, List.take_length]; exact hs) a no
            · show 17 - ((j : Int) + 1).toNat < 17 - (j : Int).toNat
              omega
        · rw [decide_eq_false (by omega : ¬ (j : Int) < (fl.length : Nat))]
          refine iteF ?_
          obtain ⟨kvs, hD1, pt⟩ := I.d
          refine ⟨_, rfl, k D kvs fl HB I.s hD hD1 pt.e I.nd few (fun z => ⟨I.rc z, fun h => ?_⟩) flin⟩
          refine h.sub (fl := fun z => z ∈ fl) (fun z a b => I.st z a b) fun y z hy sz no => ?_
          obtain ⟨m, hm⟩ := List.mem_iff_getElem?.mp hy
          have := (List.getElem?_eq_some_iff.mp hm).1
          exact cl m y (by omega) hm z sz no
      · rintro σ H' Q Q' m ⟨x, e1, y, e2, a, ys, e3, h1, i, j, e4, e5, c, e6, q⟩
        exact ⟨x, e1, y, e2, a, ys, e3, h1, i, j, e4, e5, c, e6, m _ _ q⟩
end
end Mf
namespace Mf
open PySem L2
section
variable {P : Program} {w : World} {K : PySem.W.Frag} {mg : Str → Option Value} {base : Heap} {Cp C : Addr}
/-! ### check_procedure, checked_procedures -/
def spCheck (K : PySem.W.Frag) (Cp : Addr) : Sp := fun vs H Q _ => ∃ (p : Addr) (rs : List Pr) (z : Str), vs = [.ref p, .str z] ∧ Prg K Cp H p rs ∧ z ∈ rs.map Pr.name ∧ Q .non H
abbrev sCheck_procedure : Stmt := top 8
theorem scCheck_procedure : FnScope ["program", "name"] ["program", "name"] (defScope sCheck_procedure) := ⟨rfl, rfl, rfl, by decide +kernel, rfl, by decide +kernel, by decide +kernel⟩
theorem ok_check {f : Addr} {fd : FuncData} (F : Fun K "check_procedure" "check_procedure" sCheck_procedure f fd) (O : PgOps P w K mg base Cp) : FnOk P w K mg base CX0 2 f fd ["program", "name"] (spCheck K Cp) := by
  refine F.ok scCheck_procedure (fun vs H Q E h => ?_) (fun cdv A outer s H vs Q E hr h => ?_)
  · obtain ⟨p, rs, z, rfl, _⟩ := h
    rfl
  · obtain ⟨p, rs, z, rfl, hP, hz, k⟩ := h
    refine ⟨_, (pss_one (ps_if (pt_cmpR (om_notIn O.has hr pass0) (pv 1) (pv 0) (by rfl))
        (pss_one ps_never) pss_nil)), ?_⟩
    obtain ⟨dx, _, _, _, _, _, x, _⟩ := id hP
    refine ⟨_, rfl, _, rfl, p, dx, _, rfl, x.o, p, rs, z, rfl, hP, _, rfl, _, rfl, ?_⟩
    show if (!decide (z ∈ rs.map Pr.name)) = true then _ else _
    rw [decide_eq_true hz]
    exact iteF k
def spCheckeds (K : PySem.W.Frag) (Cp C : Addr) : Sp := fun vs H Q _ => ∃ (p : Addr) (rs : List Pr) (x : V) (xs : List Str), vs = [.ref p, x] ∧ Prg K Cp H p rs ∧ ArgS K C H x xs ∧ xs.length < 4000 ∧ (∀ z ∈ xs, z ∈ rs.map Pr.name) ∧
  ∀ q ms H', NSet C H' q ms → (∀ z, z ∈ ms ↔ z ∈ xs) → Same H H' → Q (.ref q) H'
abbrev sChecked_procedures : Stmt := top 9
theorem scChecked_procedures : FnScope ["program", "names", "known", "name"] ["program", "names"] (defScope sChecked_procedures) := ⟨rfl, rfl, rfl, by decide +kernel, rfl, by decide +kernel, by decide +kernel⟩
theorem ok_checkeds {f : Addr} {fd : FuncData} (F : Fun K "checked_procedures" "checked_procedures" sChecked_procedures f fd) (T : NsC K mg C) (mk1 : CalN P w K mg base C []) (c_check_procedure : Cal P w K mg base CX0 2 "check_procedure" ["program", "name"] (spCheck K Cp)) : FnOk P w K mg base CX0 3 f fd ["program", "names"] (spCheckeds K Cp C) := by
  refine F.ok scChecked_procedures (fun vs H Q E h => ?_) (fun cdv A outer s H vs Q E hr h => ?_)
  · obtain ⟨p, rs, x, xs, rfl, _⟩ := h
    rfl
  · obtain ⟨p, rs, x, xs, rfl, hP, ax, few, hin, k⟩ := h
    have hr_check_procedure := hr
    refine ⟨_, (pss_cons (ps_set (i := 2) scChecked_procedures.nd rfl (by first | exact Or.inl rfl | exact Or.inr rfl) (pe_mkc mk1 hr pass0 (pa_cons (pv 1) pa_nil)))
      (pss_cons (ps_for PassesOwn.never rfl (pi_tup (fldK K (pv 2))) (pg_name (i := 3) scChecked_procedures.nd rfl (by first | exact Or.inl rfl | exact Or.inr rfl))
        (pss_one (ps_expr (pe_cal c_check_procedure hr_check_procedure pass0 (pa_cons (pv 0) (pa_cons (pv 3) pa_nil))))))
      (pss_one (ps_ret (pv 2))))), ?_⟩
    have R := (show RightP rs from let ⟨_, _, _, _, _, _, _, R, _⟩ := hP; R)
    refine ⟨_, rfl, ?_⟩
    intro q dx nq nd _
    refine ⟨q, dx, x, xs, rfl, upd_same, ax.same (ns_grow nq nd), few, fun t ms H1 up m h1 h2 kp => ⟨rfl, ?_⟩⟩
    obtain ⟨N, s1⟩ := ns_after few (fun z hz => names_ok R z (hin z hz)) nq nd up m h1 h2 kp
    refine ⟨_, rfl, q, C, dx, _, _, rfl, h1, T.ins.cl, T.nM, flM_get t, t, rfl, ⟨_, .of h2⟩, ?_⟩
    refine for_it walk_tup (fun i σ H' => ∃ v3 : Option V, σ = [some (.ref p), some x, some (.ref q), v3] ∧ H' = H1) ⟨none, rfl, rfl⟩ (fun i σ H' _ z => by obtain ⟨_, _, rfl⟩ := z; exact .of h2) ?_ ?_
    · rintro i x σ _ H2 hi ⟨v3, rfl, rfl⟩ ⟨rfl, hx⟩
      rw [List.getElem?_map] at hx
      obtain ⟨z, hz, rfl⟩ := Option.map_eq_some_iff.mp hx
      exact ⟨_, rfl, _, rfl, p, rs, z, rfl, hP.same s1, hin z ((m z).mp (List.mem_of_getElem? hz)), _, rfl, rfl⟩
    · rintro σ _ ⟨v3, rfl, rfl⟩
      exact ⟨_, rfl, k q ms _ N m s1⟩

/-! ### check_place, requiring_paths, breaks, readers -/
def requiring : List Str := ["call"]
def spCheckPl (K : PySem.W.Frag) (Cp : Addr) : Sp := fun vs H Q _ => ∃ (p : Addr) (rs : List Pr) (z : Str), vs = [.ref p, .str z] ∧ Prg K Cp H p rs ∧ z ∈ readsOf rs ∧ Q .non H
def spReqP (K : PySem.W.Frag) (Cp C : Addr) : Sp := fun vs H Q _ => ∃ (p so : Addr) (rs : List Pr) (y : Str) (out : List Str), vs = [.ref p, .str y, .ref so] ∧ Prg K Cp H p rs ∧ y ∈ rs.map Pr.name ∧ NSet C H so out ∧
  ∀ (d : Addr) (kvs : List (Key × V)) (ks : List Str) (H' : Hp), Same H H' → H d = none → H' d = some (.dK kvs) → kvs.map (·.1) = ks.map Sum.inr → ks.Nodup → ks.length ≤ 16 → (∀ z, z ∈ ks ↔ Rch (Suc (pls rs) requiring) (· ∈ out) (· ∈ [y]) z) → (∀ z ∈ ks, z ∈ rs.map Pr.name) → Q (.ref d) H'
abbrev sRequiring_paths : Stmt := top 28
theorem scRequiring_paths : FnScope ["program", "name", "spared"] ["program", "name", "spared"] (defScope sRequiring_paths) := ⟨rfl, rfl, rfl, by decide +kernel, rfl, by decide +kernel, by decide +kernel⟩
theorem ok_reqp {f aR : Addr} {fd : FuncData} (F : Fun K "requiring_paths" "requiring_paths" sRequiring_paths f fd) (c_paths_from : CalD P w K mg base CX0 3 "paths_from" ["program", "names", "kinds", "left_out"] (spPaths K Cp C) []) (mg_REQUIRING_KINDS : mg "REQUIRING_KINDS" = some (.ref aR)) (qR : ∀ H, SqT K H aR (requiring.map V.str)) :
    FnOk P w K mg base CX0 4 f fd ["program", "name", "spared"] (spReqP K Cp C) := by
  refine F.ok scRequiring_paths (fun vs H Q E h => ?_) (fun cdv A outer s H vs Q E hr h => ?_)
  · obtain ⟨p, so, rs, y, out, rfl, _⟩ := h
    rfl
  · obtain ⟨p, so, rs, y, out, rfl, hP, hy, hN, k⟩ := h
    refine ⟨_, (pss_one (ps_ret (pe_cald c_paths_from hr pass0 (pa_cons (pv 0) (pa_cons (pe_lst (pa_cons (pv 1) pa_nil)) (pa_cons (pe_glob (v := .ref _) rfl mg_REQUIRING_KINDS rfl) (pa_cons (pv 2) pa_nil))))))), ?_⟩
    refine ⟨_, rfl, _, rfl, (by show 1 ≤ sizeLine; decide), fun nl nnl => ?_⟩
    have s1 := Same.new (o := .lst [.str y]) nnl
    refine ⟨_, rfl, p, nl, aR, so, rs, [y], requiring, out, rfl, hP.same s1, .inl (.of upd_same), by simp, fun z hz => by rw [List.mem_singleton.mp hz]; exact hy, qR _, by decide +kernel, hN.same s1, fun d kvs ks H' s' nd hd ek ndk few m kin => ?_⟩
    have nd0 : H d = none := by
      cases e : H d with
      | none => rfl
      | some o => rw [s1 _ _ e] at nd; cases nd
    exact k d kvs ks H' (s1.trans s') nd0 hd ek ndk few m kin
/-- the places that a step in a body of a set of names reads -/
def ReadIn (x : List Pc) (y d : Str) : Prop := ∃ ss, (y, ss) ∈ x ∧ d ∈ readsIn ss
def spBreaks (K : PySem.W.Frag) (Cp C : Addr) : Sp := fun vs H Q _ => ∃ (p : Addr) (rs : List Pr) (y : Str) (x : V) (out : List Str), vs = [.ref p, .str y, x] ∧ Prg K Cp H p rs ∧ y ∈ rs.map Pr.name ∧ ArgS K C H x out ∧ out.length < 4000 ∧ (∀ z ∈ out, z ∈ rs.map Pr.name) ∧
  ∀ q ms H', NSet C H' q ms → (∀ d, d ∈ ms ↔ ∃ z, Rch (Suc (pls rs) requiring) (· ∈ out) (· ∈ [y]) z ∧ ReadIn (pls rs) z d) → Same H H' → Q (.ref q) H'
abbrev sBreaks : Stmt := top 27
theorem scBreaks : FnScope ["program", "name", "spared", "paths", "found", "kind", "place"] ["program", "name", "spared"] (defScope sBreaks) := ⟨rfl, rfl, rfl, by decide +kernel, rfl, by decide +kernel, by decide +kernel⟩
set_option maxHeartbeats 1000000 in
theorem ok_breaks {f : Addr} {fd : FuncData} {dvs : List V} {kws : List (Str × V)} {ar : Arguments} (F : FunD K "breaks" "breaks" ar (defBody sBreaks) (defScope sBreaks) dvs kws f fd) (T : NsC K mg C) (O : PgOps P w K mg base Cp) (mk1 : CalN P w K mg base C [])
    (c_check_procedure : Cal P w K mg base CX0 2 "check_procedure" ["program", "name"] (spCheck K Cp)) (c_checked_procedures : Cal P w K mg base CX0 3 "checked_procedures" ["program", "names"] (spCheckeds K Cp C)) (c_requiring_paths : Cal P w K mg base CX0 4 "requiring_paths" ["program", "name", "spared"] (spReqP K Cp C)) :
    FnOk P w K mg base CX0 5 f fd ["program", "name", "spared"] (spBreaks K Cp C) := by
  refine funD_ok F scBreaks (fun vs H Q E h => ?_) (fun cdv A outer s H vs Q E hr h => ?_)
  · obtain ⟨p, rs, y, x, out, rfl, _⟩ := h
    rfl
  · obtain ⟨p, rs, y, x, out, rfl, hP, hy, ax, few, oin, k⟩ := h
    have hr2 : Room 2 _ := hr.mono (by decide : 2 ≤ 4)
    have hr_check_procedure := hr2; have hr_checked_procedures : Room 3 _ := hr.mono (by decide : 3 ≤ 4); have hr_requiring_paths := hr
    refine ⟨_, (pss_cons (ps_expr (pe_cal c_check_procedure hr_check_procedure pass0 (pa_cons (pv 0) (pa_cons (pv 1) pa_nil))))
      (pss_cons (ps_set (i := 3) scBreaks.nd rfl (by first | exact Or.inl rfl | exact Or.inr rfl) (pe_cal c_requiring_paths hr_requiring_paths pass0 (pa_cons (pv 0) (pa_cons (pv 1) (pa_cons (pe_cal c_checked_procedures hr_checked_procedures pass0 (pa_cons (pv 0) (pa_cons (pv 2) pa_nil))) pa_nil)))))
      (pss_one (ps_ret (pe_mkc mk1 hr2 pass0 (pa_cons (pe_lock (pe_lc2 (own := [("found", 4), ("kind", 5), ("place", 6)]) (vs1 := [5, 6]) (g := (gName 4)) (g1 := (gTup K 2 (gCons (gName 5) (gCons (gName 6) gNil)))) (tt := tYes) (tt1 := _) rfl scBreaks.nd (pi_keys (pv 3)) (blkOk_by (own := [("found", 4), ("kind", 5), ("place", 6)]) (N := ["program", "name", "spared", "paths", "found", "kind", "place"]) (sc := defScope sBreaks) (by decide +kernel)) (by decide) (fun _ _ _ _ _ => (pg_name (i := 4) scBreaks.nd rfl (by first | exact Or.inl rfl | exact Or.inr rfl))) (fun _ _ _ _ _ => pts_nil) (fun _ _ _ _ _ => (piT K (om_get O.get hr2 pass0 (pv 0) (pv 4)))) (fun _ _ _ _ _ => (pg_tup rfl (pgs_cons (pg_name (i := 5) scBreaks.nd rfl (by first | exact Or.inl rfl | exact Or.inr rfl)) (pgs_cons (pg_name (i := 6) scBreaks.nd rfl (by first | exact Or.inl rfl | exact Or.inr rfl)) pgs_nil)))) (fun _ _ _ _ _ => pts_one (pt_cmpR op_eq (pv 5) pe_str (nomark _))) (fun _ _ _ _ _ => (pv 6)))) pa_nil)))))), ?_⟩
    refine ⟨_, rfl, _, rfl, p, rs, y, rfl, hP, hy, ?_⟩
    refine ⟨_, rfl, _, rfl, _, rfl, _, rfl, p, rs, x, out, rfl, hP, ax, few, oin, fun so os H1 N1 m1 s1 => ?_⟩
    refine ⟨p, so, rs, y, os, rfl, hP.same s1, hy, N1, fun d kvs ks H2 s2 nd hd ek ndk fewk mk kin => ?_⟩
    have R := (show RightP rs from let ⟨_, _, _, _, _, _, _, R, _⟩ := hP; R)
    have big : (5000 : Nat) < sizeLine := by decide
    have lk : kvs.length = ks.length := by have := congrArg List.length ek; simpa using this
    have nd0 : H d = none := by
      cases e : H d with
      | none => rfl
      | some o => rw [s1 _ _ e] at nd; cases nd
    refine ⟨d, _, hd, trivial, fun od => ?_⟩
    have sL : Same H (upd H2 d (.frz od (.dK kvs))) := (s1.trans s2).mut nd0
    have hL : (upd H2 d (.frz od (.dK kvs))) d = some (.frz od (.dK kvs)) := upd_same
    refine ⟨_, rfl, d, od, rfl, .inl ⟨kvs, hL, fun D hD => ?_⟩⟩
    have Dd : D ≠ d := fun e => by rw [e, hL] at hD; cases hD
    refine it_any walk_keys (fun i H' => Same (upd H2 d (.frz od (.dK kvs))) H' ∧ ∃ l : List Str, H' D = some (.lst (l.map V.str)) ∧ (∀ e, e ∈ l ↔ ∃ z ∈ ks.take i, ReadIn (pls rs) z e) ∧ l.length ≤ 12 * i) ⟨Same.new hD, [], upd_same, (fun e => by simp), Nat.zero_le _⟩ (fun i H' _ q => q.1 _ _ hL) ?_ ?_
    · rintro i x _ H3 hi ⟨s3, l, h3, m3, l3⟩ ⟨rfl, ky, v, hx, rfl⟩
      have hz : ∃ z, ks[i]? = some z ∧ ky = Sum.inr z := by
        have h1 : (kvs.map (·.1))[i]? = some ky := by rw [List.getElem?_map, hx]; rfl
        rw [ek, List.getElem?_map] at h1
        obtain ⟨z, h2, h3⟩ := Option.map_eq_some_iff.mp h1
        exact ⟨z, h2, h3.symm⟩
      obtain ⟨z, hz, rfl⟩ := hz
      have tk : ks.take (i + 1) = ks.take i ++ [z] := by rw [List.take_add_one, hz]; rfl
      obtain ⟨r, hrr, ez⟩ := List.mem_map.mp (kin z (List.mem_of_getElem? hz))
      subst ez
      have PB := hP.same (sL.trans s3)
      obtain ⟨dxp, _, _, _, _, _, xp, _⟩ := id PB
      have l12 := bodyB_len (R.ri r hrr).2.1
      refine ⟨rfl, yes_then ?_⟩
      refine ⟨_, rfl, _, rfl, p, dxp, _, rfl, xp.o, p, rs, r, rfl, PB, hrr, fun u sq st => ⟨u, rfl, ⟨_, sq⟩, ?_⟩⟩
      have lts : r.ts.length = r.ss.length := Paired.length st
      have rin : ∀ e, ReadIn (pls rs) r.name e ↔ e ∈ readsIn r.ss := fun e =>
        ⟨fun ⟨ss, h1, h2⟩ => by rw [pc_one (x := pls rs) (by rw [pls_names]; exact R.nd) (List.mem_map.mpr ⟨r, hrr, rfl⟩) h1] at h2; exact h2, fun h => ⟨r.ss, List.mem_map.mpr ⟨r, hrr, rfl⟩, h⟩⟩
      rw [lk] at hi
      refine it_any walk_tup (fun j H' => Same (upd H2 d (.frz od (.dK kvs))) H' ∧ SameT H3 H' ∧ ∃ l' : List Str, H' D = some (.lst (l'.map V.str)) ∧ (∀ e, e ∈ l' ↔ (e ∈ l ∨ e ∈ readsIn (r.ss.take j))) ∧ l'.length ≤ 12 * i + j) ⟨s3, .refl, l, h3, (fun e => by simp [readsIn]), by omega⟩ (fun j H' _ q => q.2.1.tup sq) ?_ ?_
      · rintro j x _ H4 hj ⟨s4, t4, l', h4, m4, l4⟩ ⟨rfl, hx⟩
        rw [List.getElem?_map] at hx
        obtain ⟨t, ht, rfl⟩ := Option.map_eq_some_iff.mp hx
        obtain ⟨sp, hsp, hts⟩ := st.get ht
        rw [List.length_map, lts] at hj
        have tk1 : r.ss.take (j + 1) = r.ss.take j ++ [sp] := by rw [List.take_add_one, hsp]; rfl
        refine ⟨t, _, rfl, .of (t4 _ _ noLD_tup hts), rfl, _, _, rfl, _, _, rfl, rfl, rfl, _, rfl, rfl, _, rfl, ite2 (fun q => ?_) fun q => ?_⟩
        · have q : sp.1 = ("read" : Str) := by have := of_decide_eq_true q; exact V.str.inj this
          refine ⟨_, rfl, _, h4, by rw [List.length_map]; omega, s4.mut hD, t4.putL h4, l' ++ [sp.2], by rw [upd_same, List.map_append]; rfl, fun e => ?_, by rw [List.length_append, List.length_singleton]; omega⟩
          rw [tk1, readsIn_snoc, if_pos q, List.mem_append, m4 e, List.mem_append, List.mem_singleton, or_assoc]
        · have q : ¬ sp.1 = ("read" : Str) := fun e => q (decide_eq_true (by rw [e]))
          refine ⟨s4, t4, l', h4, fun e => ?_, by omega⟩
          rw [tk1, readsIn_snoc, if_neg q, List.append_nil, m4 e]
      · rintro H4 ⟨s4, t4, l', h4, m4, l4⟩
        rw [List.length_map, lts, List.take_length] at m4
        rw [List.length_map, lts] at l4
        refine ⟨s4, l', h4, fun e => ?_, by omega⟩
        rw [m4 e, m3 e, tk]
        constructor
        · rintro (⟨z, hz1, hz2⟩ | h)
          · exact ⟨z, List.mem_append_left _ hz1, hz2⟩
          · exact ⟨r.name, List.mem_append_right _ (List.mem_singleton.mpr rfl), (rin e).mpr h⟩
        · rintro ⟨z, hz1, hz2⟩
          rcases List.mem_append.mp hz1 with q | q
          · exact .inl ⟨z, q, hz2⟩
          · rw [List.mem_singleton.mp q] at hz2
            exact .inr ((rin e).mp hz2)
    · rintro H3 ⟨s3, l, h3, m3, l3⟩
      rw [lk, List.take_length] at m3
      rw [lk] at l3
      refine ⟨s3 _ _ hL, ?_⟩
      have s5 : Same H (upd H3 d (.dK kvs)) := fun b o hb => by
        have nb : b ≠ d := fun e => by rw [e, nd0] at hb; cases hb
        rw [upd_ne nb]
        exact s3 _ _ (sL _ _ hb)
      have h5 : (upd H3 d (.dK kvs)) D = some (.lst (l.map V.str)) := by rw [upd_ne Dd]; exact h3
      generalize upd H3 d (.dK kvs) = H5 at s5 h5
      intro q dx nq ndx _
      have okl : ∀ e ∈ l, PyData.strOk e = true := fun e he => by
        obtain ⟨z, _, ss, h1, h2⟩ := (m3 e).mp he
        obtain ⟨r, hr, e1⟩ := List.mem_map.mp h1
        cases e1
        obtain ⟨s, hs, rfl⟩ := List.mem_map.mp h2
        exact (stepB_name (bodyB_st (R.ri r hr).2.1 s (List.mem_filter.mp hs).1)).ok
      refine ⟨q, dx, .ref D, l, rfl, upd_same, .lst ((ns_grow nq ndx) _ _ h5), by omega, fun t ms H6 up m6 h1 h2 kp => ⟨rfl, ?_⟩⟩
      obtain ⟨N6, s6⟩ := ns_after (by omega) okl nq ndx up m6 h1 h2 kp
      have e1 : (· ∈ os) = (· ∈ out) := funext fun z => propext (m1 z)
      refine k q ms H6 N6 (fun e => ?_) (s5.trans s6)
      rw [m6 e, m3 e]
      constructor
      · rintro ⟨z, hz, hr⟩
        exact ⟨z, by rw [← e1]; exact (mk z).mp hz, hr⟩
      · rintro ⟨z, hz, hr⟩
        exact ⟨z, (mk z).mpr (by rw [e1]; exact hz), hr⟩
def spReaders (K : PySem.W.Frag) (Cp C : Addr) : Sp := fun vs H Q _ => ∃ (p : Addr) (rs : List Pr) (d : Str), vs = [.ref p, .str d] ∧ Prg K Cp H p rs ∧ d ∈ readsOf rs ∧
  ∀ q ms H', NSet C H' q ms → (∀ z, z ∈ ms ↔ (z ∈ rs.map Pr.name ∧ ReadIn (pls rs) z d)) → Same H H' → Q (.ref q) H'
end
end Mf
namespace Mf
open PySem L2
/-! ### items and rows -/
inductive Itm
  | num (n : Int)
  | wd (w : Str)
  | gap
  | nd (i : Nat)
def itV : Itm → List V
  | .num n => [.str "number", .int n]
  | .wd w => [.str "word", .str w]
  | .gap => [.str "gap"]
  | .nd i => [.str "node", .int i]
def ItA (K : PySem.W.Frag) (H : Hp) (t : Addr) (it : Itm) : Prop := SqT K H t (itV it)
def RowA (K : PySem.W.Frag) (H : Hp) (b : Addr) (row : List Itm) : Prop := ∃ ts : List Addr, H b = some (.lst (ts.map V.ref)) ∧ Paired (ItA K H) ts row
def RowsA (K : PySem.W.Frag) (H : Hp) (a : Addr) (rws : List (List Itm)) : Prop := ∃ bs : List Addr, H a = some (.lst (bs.map V.ref)) ∧ Paired (RowA K H) bs rws
section
variable {P : Program} {w : World} {K : PySem.W.Frag} {mg : Str → Option Value} {base : Heap} {Cp C : Addr}
theorem ItA.same {H H' : Hp} {t : Addr} {it : Itm} (x : ItA K H t it) (s : Same H H') : ItA K H' t it := s.tup x
theorem ItA.sameN {H H' : Hp} {t : Addr} {it : Itm} (x : ItA K H t it) (s : SameN H H') : ItA K H' t it := s.tup x
theorem RowA.same {H H' : Hp} {b : Addr} {row : List Itm} (x : RowA K H b row) (s : Same H H') : RowA K H' b row := let ⟨ts, h, p⟩ := x; ⟨ts, s _ _ h, paired_same p fun _ _ q => q.same s⟩
theorem RowsA.same {H H' : Hp} {a : Addr} {rws : List (List Itm)} (x : RowsA K H a rws) (s : Same H H') : RowsA K H' a rws := let ⟨bs, h, p⟩ := x; ⟨bs, s _ _ h, paired_same p fun _ _ q => q.same s⟩
theorem paired_memL {α β : Type} {R : α → β → Prop} {xs : List α} {ys : List β} (r : Paired R xs ys) : Paired (fun x y => R x y ∧ x ∈ xs) xs ys := by
  induction r with
  | nil => exact .nil
  | cons a _ ih => exact .cons ⟨a, List.mem_cons_self⟩ (paired_same ih fun _ _ q => ⟨q.1, List.mem_cons_of_mem _ q.2⟩)
theorem reads_mem {ss : List Step} {s : Step} (h : s ∈ ss) (e : s.1 = "read") : s.2 ∈ readsIn ss := List.mem_map.mpr ⟨s, List.mem_filter.mpr ⟨h, decide_eq_true e⟩, rfl⟩
theorem calls_of {k : Str} (h : k ∈ kinds) (e1 : k ≠ "read") (e2 : k ≠ "say") : k ∈ calling := by
  unfold kinds at h
  simp only [List.mem_cons, List.not_mem_nil, or_false] at h
  rcases h with h | h | h | h
  · exact absurd h e1
  · exact absurd h e2
  · rw [h]; decide +kernel
  · rw [h]; decide +kernel
/-- a dict of numbers, one of items -/
def NumD (H : Hp) (d : Addr) (ps : List Str) (val : Str → Int) : Prop := ∃ kvs, H d = some (.dK kvs) ∧ ∀ z ∈ ps, valV kvs (Sum.inr z) = some (.int (val z))
def NodD (K : PySem.W.Frag) (H : Hp) (d : Addr) (ns : List Str) (nod : Str → Itm) : Prop := ∃ kvs, H d = some (.dK kvs) ∧ ∀ z ∈ ns, ∃ t, valV kvs (Sum.inr z) = some (.ref t) ∧ ItA K H t (nod z)
theorem NumD.same {H H' : Hp} {d : Addr} {ps : List Str} {val : Str → Int} (x : NumD H d ps val) (s : Same H H') : NumD H' d ps val := let ⟨k, h, q⟩ := x; ⟨k, s _ _ h, q⟩
theorem NodD.same {H H' : Hp} {d : Addr} {ns : List Str} {nod : Str → Itm} (x : NodD K H d ns nod) (s : Same H H') : NodD K H' d ns nod := let ⟨k, h, q⟩ := x; ⟨k, s _ _ h, fun z hz => let ⟨t, a, b⟩ := q z hz; ⟨t, a, b.same s⟩⟩
/-- the item that a step gives -/
def itemOf (val : Str → Int) (nod : Str → Itm) (s : Step) : Itm := if s.1 = ("read" : Str) then .num (val s.2) else if s.1 = ("say" : Str) then .wd s.2 else nod s.2
def spItem (K : PySem.W.Frag) : Sp := fun vs H Q _ => ∃ (s : Step) (dv dn : Addr) (ps ns : List Str) (val : Str → Int) (nod : Str → Itm), vs = [.str s.1, .str s.2, .ref dv, .ref dn] ∧ NumD H dv ps val ∧ NodD K H dn ns nod ∧ (s.1 = "read" → s.2 ∈ ps) ∧ (s.1 ≠ "read" → s.1 ≠ "say" → s.2 ∈ ns) ∧
  ∀ t H', ItA K H' t (itemOf val nod s) → Same H H' → Q (.ref t) H'
abbrev sItem : Stmt := top 37
theorem scItem : FnScope ["kind", "word", "values", "nodes"] ["kind", "word", "values", "nodes"] (defScope sItem) := ⟨rfl, rfl, rfl, by decide +kernel, rfl, by decide +kernel, by decide +kernel⟩
theorem ok_item {f : Addr} {fd : FuncData} (F : Fun K "_item" "_item" sItem f fd) : FnOk P w K mg base CX0 1 f fd ["kind", "word", "values", "nodes"] (spItem K) := by
  refine F.ok scItem (fun vs H Q E h => ?_) (fun cdv A outer s H vs Q E hr h => ?_)
  · obtain ⟨s, dv, dn, ps, ns, val, nod, rfl, _⟩ := h
    rfl
  · obtain ⟨st, dv, dn, ps, ns, val, nod, rfl, ⟨kv, hv, nv⟩, ⟨kn, hn, nn⟩, hR, hC, k⟩ := h
    have hu : (A.deeper (PyProof.Rows.envOfC "_item" (defScope sItem) s.heap.objs.size f cdv)).units + 1 < cLine := by have := hr.units; omega
    refine ⟨_, (pss_cons (ps_if (pt_cmpR op_eq (pv 0) pe_str (nomark _))
        (pss_one (ps_ret (pe_tup (pa_cons pe_str (pa_cons (pe_dget hu (pv 2) (pv 1) (fun _ _ => rfl)) pa_nil))))) pss_nil)
      (pss_cons (ps_if (pt_cmpR op_eq (pv 0) pe_str (nomark _))
        (pss_one (ps_ret (pe_tup (pa_cons pe_str (pa_cons (pv 1) pa_nil))))) pss_nil)
      (pss_one (ps_ret (pe_dget hu (pv 3) (pv 1) (fun _ _ => rfl)))))), ?_⟩
    refine ⟨_, rfl, rfl, _, rfl, ite2 (fun e => ?_) fun e => ?_⟩
    · have e : st.1 = "read" := V.str.inj (of_decide_eq_true e)
      refine ⟨_, rfl, _, rfl, dv, _, rfl, .inl ⟨_, Sum.inr st.2, .inl hv, rfl, (nv _ (hR e)).symm⟩, (by show 2 ≤ sizeLine; decide), fun t ht => k t _ ?_ (Same.new ht)⟩
      unfold itemOf
      rw [if_pos e]
      exact .of upd_same
    · have e : st.1 ≠ "read" := fun h => e (by rw [h]; exact decide_eq_true rfl)
      refine ⟨_, rfl, rfl, _, rfl, ite2 (fun e2 => ?_) fun e2 => ?_⟩
      · have e2 : st.1 = "say" := V.str.inj (of_decide_eq_true e2)
        refine ⟨_, rfl, (by show 2 ≤ sizeLine; decide), fun t ht => k t _ ?_ (Same.new ht)⟩
        unfold itemOf
        rw [if_neg e, if_pos e2]
        exact .of upd_same
      · have e2 : st.1 ≠ "say" := fun h => e2 (by rw [h]; exact decide_eq_true rfl)
        obtain ⟨t, h1, h2⟩ := nn _ (hC e e2)
        refine ⟨_, rfl, _, rfl, dn, _, rfl, .inl ⟨_, Sum.inr st.2, .inl hn, rfl, h1.symm⟩, k t H ?_ (Same.refl H)⟩
        unfold itemOf
        rw [if_neg e, if_neg e2]
        exact h2
/-- the outer comprehension's names -/
def blkSc1 : Scope := { kind := .function, names := [(".0", .local), ("name", .local), ("nodes", .cell), ("program", .cell), ("values", .cell)], isGenerator := false, isCoroutine := false }
def spRowsAll (K : PySem.W.Frag) (Cp : Addr) : Sp := fun vs H Q _ => ∃ (p dv dn : Addr) (rs : List Pr) (val : Str → Int) (nod : Str → Itm), vs = [.ref p, .ref dv, .ref dn] ∧ Prg K Cp H p rs ∧ NumD H dv (readsOf rs) val ∧ NodD K H dn (rs.map Pr.name) nod ∧
  ∀ a H', H a = none → RowsA K H' a (rs.map fun r => r.ss.map (itemOf val nod)) → Same H H' → Q (.ref a) H'
abbrev sRows_of_all : Stmt := top 36
theorem scRows_of_all : FnScope ["program", "values", "nodes", "name", "kind", "word"] ["program", "values", "nodes"] (defScope sRows_of_all) := ⟨rfl, rfl, rfl, by decide +kernel, rfl, by decide +kernel, by decide +kernel⟩
theorem ok_rowsAll {f : Addr} {fd : FuncData} (F : Fun K "rows_of_all" "rows_of_all" sRows_of_all f fd) (T : PgC K mg Cp) (O : PgOps P w K mg base Cp) (c__item : Cal P w K mg base CX0 1 "_item" ["kind", "word", "values", "nodes"] (spItem K)) : FnOk P w K mg base CX0 3 f fd ["program", "values", "nodes"] (spRowsAll K Cp) := by
  refine F.ok scRows_of_all (fun vs H Q E h => ?_) (fun cdv A outer s H vs Q E hr h => ?_)
  · obtain ⟨p, dv, dn, rs, val, nod, rfl, _⟩ := h
    rfl
  · obtain ⟨p, dv, dn, rs, val, nod, rfl, hP, hV, hN, k⟩ := h
    have hr1 : Room 1 _ := hr.mono (by decide : 1 ≤ 2)
    have hr__item := hr1
    refine ⟨_, (pss_one (ps_ret (pe_lc (own := [("name", 3)]) (g := (gName 3)) (tt := tYes) rfl scRows_of_all.nd (pi_tup (fldK K (pv 0))) (blkOk_by (own := [("name", 3)]) (N := ["program", "values", "nodes", "name", "kind", "word"]) (sc := defScope sRows_of_all) (by decide +kernel)) (fun _ _ _ _ _ => (pg_name (i := 3) scRows_of_all.nd rfl (by first | exact Or.inl rfl | exact Or.inr rfl))) (fun _ _ _ _ _ => pts_nil) (fun _ _ _ _ _ => (pe_lc (own := [("kind", 4), ("word", 5)]) (g := (gTup K 2 (gCons (gName 4) (gCons (gName 5) gNil)))) (tt := tYes) rfl scRows_of_all.nd (piS K (om_get O.get hr pass0 (pv 0) (pv 3))) (blkOk_by (own := [("kind", 4), ("word", 5)]) (N := ["program", "values", "nodes", "name", "kind", "word"]) (sc := blkSc1) (by decide +kernel)) (fun _ _ _ _ _ => (pg_tup rfl (pgs_cons (pg_name (i := 4) scRows_of_all.nd rfl (by first | exact Or.inl rfl | exact Or.inr rfl)) (pgs_cons (pg_name (i := 5) scRows_of_all.nd rfl (by first | exact Or.inl rfl | exact Or.inr rfl)) pgs_nil)))) (fun _ _ _ _ _ => pts_nil) (fun _ _ _ _ _ => (pe_cal c__item hr__item pass0 (pa_cons (pv 4) (pa_cons (pv 5) (pa_cons (pv 1) (pa_cons (pv 2) pa_nil))))))))))), ?_⟩
    have hP0 := hP
    obtain ⟨dx, d, n, q, us, pl, x, R, up, m⟩ := hP
    have few := R.few
    refine ⟨_, rfl, p, Cp, dx, _, _, rfl, x.o, T.ins.cl, T.nN, flP_n d n q, n, rfl, ⟨_, x.n.sq⟩, fun D hD => ?_⟩
    refine lc_it walk_tup (fun i H' => ∃ bs : List Addr, Same H H' ∧ H' D = some (.lst (bs.map V.ref)) ∧ Paired (RowA K H') bs ((rs.take i).map fun r => r.ss.map (itemOf val nod)) ∧ bs.length = i ∧ ∀ b ∈ bs, b ≠ D)
      ⟨[], Same.new hD, upd_same, .nil, rfl, by simp⟩ (fun i H' _ q => (x.n.same q.choose_spec.1).sq) ?_ ?_
    · rintro i y _ H1 hi ⟨bs, s1, h1, rw1, lb, nb⟩ ⟨rfl, hx⟩
      rw [List.getElem?_map, List.getElem?_map] at hx
      obtain ⟨z, hz, rfl⟩ := Option.map_eq_some_iff.mp hx
      obtain ⟨r, hr', rfl⟩ := Option.map_eq_some_iff.mp hz
      have rm := List.mem_of_getElem? hr'
      have hP1 := hP0.same s1
      rw [List.length_map, List.length_map] at hi
      refine ⟨rfl, yes_then ?_⟩
      have ip : H1 p = _ := s1 _ _ x.o
      refine ⟨_, rfl, _, rfl, p, dx, _, rfl, ip, p, rs, r, rfl, hP1, rm, fun u sq st => ?_⟩
      refine ⟨u, _, rfl, .inr sq, fun J G wk hG D2 hD2 => ?_⟩
      have lt : r.ts.length = r.ss.length := Paired.length st
      have ls := bodyB_len (R.ri r rm).2.1
      refine lc_it wk (fun j H' => ∃ ts : List Addr, Same H1 H' ∧ H' D2 = some (.lst (ts.map V.ref)) ∧ Paired (ItA K H') ts ((r.ss.take j).map (itemOf val nod)) ∧ ts.length = j) ⟨[], Same.new hD2, upd_same, .nil, rfl⟩ (fun j H' _ q => hG _ q.choose_spec.1) ?_ ?_
      · rintro j y _ H2 hj ⟨ts, s2, h2, it2, lts⟩ ⟨rfl, hx⟩
        rw [List.getElem?_map] at hx
        obtain ⟨t, ht, rfl⟩ := Option.map_eq_some_iff.mp hx
        obtain ⟨sp, hsp, hts⟩ := st.get ht
        rw [List.length_map, lt] at hj
        have tk : r.ss.take (j + 1) = r.ss.take j ++ [sp] := by rw [List.take_add_one, hsp]; rfl
        have sm := List.mem_of_getElem? hsp
        have s12 := s1.trans s2
        refine ⟨t, _, rfl, .of (s2 _ _ hts), rfl, _, _, rfl, _, _, rfl, rfl, rfl, yes_then ?_⟩
        refine ⟨_, rfl, _, rfl, _, rfl, _, rfl, sp, dv, dn, readsOf rs, rs.map Pr.name, val, nod, rfl, hV.same s12, hN.same s12, fun e => ?_, fun e1 e2 => ?_, fun t2 H3 it s3 => ?_⟩
        · exact List.mem_flatten.mpr ⟨_, List.mem_map.mpr ⟨r, rm, rfl⟩, reads_mem sm e⟩
        · exact R.ca r rm sp sm (calls_of (stepB_kind (bodyB_st (R.ri r rm).2.1 sp sm)) e1 e2)
        · have h3 := s3 _ _ h2
          have pn : SameN H3 (upd H3 D2 (.lst (ts.map V.ref ++ [.ref t2]))) := SameN.refl.put h3
          refine ⟨_, h3, ?_, ts ++ [t2], (s2.trans s3).mut hD2, by rw [upd_same, List.map_append]; rfl, ?_, by rw [List.length_append, lts]; rfl⟩
          · rw [List.length_map, lts]; exact Nat.lt_of_lt_of_le (by omega : j < 13) (by decide)
          · rw [tk, List.map_append]
            exact paired_snoc (paired_same it2 fun _ _ q => (q.same s3).sameN pn) (it.sameN pn)
      · rintro H2 ⟨ts, s2, h2, it2, lts⟩
        rw [List.length_map, lt, List.take_length] at it2
        have h12 := s2 _ _ h1
        have DD : D2 ≠ D := ne_none hD2 h1
        have pn : SameN H2 (upd H2 D (.lst (bs.map V.ref ++ [.ref D2]))) := SameN.refl.put h12
        refine ⟨_, h12, ?_, bs ++ [D2], (s1.trans s2).mut hD, by rw [upd_same, List.map_append]; rfl, ?_, by rw [List.length_append, lb]; rfl, fun b hb => ?_⟩
        · rw [List.length_map, lb]; exact Nat.lt_of_lt_of_le (by omega : i < 17) (by decide)
        · rw [List.take_add_one, hr', Option.toList_some, List.map_append]
          refine paired_snoc (paired_same (paired_memL rw1) fun b row q => ?_) ?_
          · obtain ⟨ts', e1, e2⟩ := q.1
            exact ⟨ts', by rw [upd_ne (nb b q.2)]; exact s2 _ _ e1, paired_same e2 fun _ _ z => (z.same s2).sameN pn⟩
          · exact ⟨ts, by rw [upd_ne DD]; exact h2, paired_same it2 fun _ _ z => z.sameN pn⟩
        · rcases List.mem_append.mp hb with hb | hb
          · exact nb b hb
          · rw [List.mem_singleton.mp hb]; exact DD
    · rintro H1 ⟨bs, s1, h1, rw1, lb, nb⟩
      rw [List.length_map, List.length_map, List.take_length] at rw1
      exact k D H1 hD ⟨bs, h1, rw1⟩ s1
end
end Mf
namespace Mf
open PySem L2
/-! ### the first difference, where there is none -/
def itmDec : (a b : Itm) → Decidable (a = b)
  | .num n, .num m => if h : n = m then isTrue (by rw [h]) else isFalse fun e => h (Itm.num.inj e)
  | .wd n, .wd m => if h : n = m then isTrue (by rw [h]) else isFalse fun e => h (Itm.wd.inj e)
  | .gap, .gap => isTrue rfl
  | .nd n, .nd m => if h : n = m then isTrue (by rw [h]) else isFalse fun e => h (Itm.nd.inj e)
  | .num _, .wd _ => isFalse fun e => nomatch e
  | .num _, .gap => isFalse fun e => nomatch e
  | .num _, .nd _ => isFalse fun e => nomatch e
  | .wd _, .num _ => isFalse fun e => nomatch e
  | .wd _, .gap => isFalse fun e => nomatch e
  | .wd _, .nd _ => isFalse fun e => nomatch e
  | .gap, .num _ => isFalse fun e => nomatch e
  | .gap, .wd _ => isFalse fun e => nomatch e
  | .gap, .nd _ => isFalse fun e => nomatch e
  | .nd _, .num _ => isFalse fun e => nomatch e
  | .nd _, .wd _ => isFalse fun e => nomatch e
  | .nd _, .gap => isFalse fun e => nomatch e
instance : DecidableEq Itm := itmDec
/-- what a list of rows must be -/
structure RwsOk (R : List (List Itm)) : Prop where
  few : R.length ≤ 40
  row : ∀ r ∈ R, r.length ≤ 12 ∧ (∀ w, Itm.wd w ∈ r → PyData.strOk w = true) ∧ ∀ i, Itm.nd i ∈ r → i < R.length
def itD : Itm → PyData
  | .num n => .tuple [.str "number", .int n]
  | .wd w => .tuple [.str "word", .str w]
  | .gap => .tuple [.str "gap"]
  | .nd i => .tuple [.str "node", .int i]
theorem dp_it {K : PySem.W.Frag} {H : Hp} {t : Addr} {it : Itm} (h : ItA K H t it) : Dp K H (.ref t) (itD it) := by
  cases it with
  | num n => exact .tup h (.cons (.str _) (.cons (.int _) .nil))
  | wd w => exact .tup h (.cons (.str _) (.cons (.str _) .nil))
  | gap => exact .tup h (.cons (.str _) .nil)
  | nd i => exact .tup h (.cons (.str _) (.cons (.int _) .nil))
theorem sh_it {it : Itm} (h : ∀ w, it = .wd w → PyData.strOk w = true) : Sh 1 (itD it) := by
  have two : ∀ {a b : PyData}, Sh 0 a → Sh 0 b → Sh 1 (.tuple [a, b]) := fun {a b} ha hb => .tuple fun d hd => by
    simp only [List.mem_cons, List.not_mem_nil, or_false] at hd
    rcases hd with rfl | rfl
    · exact ha
    · exact hb
  cases it with
  | num n => exact two (.str (by decide +kernel)) (.int _)
  | wd w => exact two (.str (by decide +kernel)) (.str (h w rfl))
  | gap => exact .tuple fun d hd => by rw [List.mem_singleton.mp hd]; exact .str (by decide +kernel)
  | nd i => exact two (.str (by decide +kernel)) (.int _)
theorem eqv_two {a b : PyData} (ha : PyData.eqv a a = true) (hb : PyData.eqv b b = true) : PyData.eqv (.tuple [a, b]) (.tuple [a, b]) = true := by
  show (PyData.eqv a a && (PyData.eqv b b && true)) = true
  rw [ha, hb]; rfl
theorem eqv_one {a : PyData} (ha : PyData.eqv a a = true) : PyData.eqv (.tuple [a]) (.tuple [a]) = true := by
  show (PyData.eqv a a && true) = true
  rw [ha]; rfl
theorem eqv_s (z : Str) : PyData.eqv (.str z) (.str z) = true := by rw [eqv_str]; simp
theorem eqv_i (n : Int) : PyData.eqv (.int n) (.int n) = true := by show (n == n) = true; simp
theorem eqv_it (it : Itm) : PyData.eqv (itD it) (itD it) = true := by
  cases it with
  | num n => exact eqv_two (eqv_s _) (eqv_i _)
  | wd w => exact eqv_two (eqv_s _) (eqv_s _)
  | gap => exact eqv_one (eqv_s _)
  | nd i => exact eqv_two (eqv_s _) (eqv_i _)
theorem paired_at {α β : Type} {R : α → β → Prop} {xs : List α} {ys : List β} (r : Paired R xs ys) : ∀ {i : Nat} {y : β}, ys[i]? = some y → ∃ x, xs[i]? = some x ∧ R x y := by
  induction r with
  | nil => intro i y h; simp at h
  | cons a _ ih =>
    intro i y h
    cases i with
    | zero => cases h; exact ⟨_, rfl, a⟩
    | succ i => exact ih h
/-- an item, or MISSING -/
def oiD : Option Itm → PyData
  | none => .tuple [.str "missing"]
  | some it => itD it
theorem eqv_ne2 {a b c d : PyData} (h : PyData.eqv a c = false) : PyData.eqv (.tuple [a, b]) (.tuple [c, d]) = false := by
  show (PyData.eqv a c && (PyData.eqv b d && true)) = false
  rw [h]; rfl
theorem eqv_2 {a b c d : PyData} (h : PyData.eqv a c = true) : PyData.eqv (.tuple [a, b]) (.tuple [c, d]) = PyData.eqv b d := by
  show (PyData.eqv a c && (PyData.eqv b d && true)) = _
  rw [h, Bool.true_and, Bool.and_true]
theorem eqv_21 {a b c : PyData} : PyData.eqv (.tuple [a, b]) (.tuple [c]) = false := by
  show (PyData.eqv a c && false) = false
  rw [Bool.and_false]
theorem eqv_12 {a b c : PyData} : PyData.eqv (.tuple [c]) (.tuple [a, b]) = false := by
  show (PyData.eqv c a && false) = false
  rw [Bool.and_false]
theorem eqv_11 {a c : PyData} : PyData.eqv (.tuple [a]) (.tuple [c]) = PyData.eqv a c := by
  show (PyData.eqv a c && true) = _
  rw [Bool.and_true]
theorem eqv_int (n m : Int) : PyData.eqv (.int n) (.int m) = decide (n = m) := by
  show (n == m) = _
  by_cases e : n = m <;> simp [e]
theorem eqv_t {x y : Str} (h : x ≠ y) : PyData.eqv (.str x) (.str y) = false := by rw [eqv_str]; exact decide_eq_false h
theorem eqv_oi (a b : Option Itm) : PyData.eqv (oiD a) (oiD b) = decide (a = b) := by
  cases a with
  | none =>
    cases b with
    | none => exact eqv_one (eqv_s _)
    | some y => cases y with
      | gap => exact (eqv_11.trans (eqv_t (by decide))).trans (decide_eq_false (by simp)).symm
      | _ => exact eqv_12.trans (decide_eq_false (by simp)).symm
  | some x =>
    cases b with
    | none => cases x with
      | gap => exact (eqv_11.trans (eqv_t (by decide))).trans (decide_eq_false (by simp)).symm
      | _ => exact eqv_21.trans (decide_eq_false (by simp)).symm
    | some y =>
      cases x with
      | num n => cases y with
        | num m => exact ((eqv_2 (eqv_s _)).trans (eqv_int n m)).trans (by by_cases e : n = m <;> simp [e])
        | wd z => exact (eqv_ne2 (eqv_t (by decide))).trans (decide_eq_false (by simp)).symm
        | gap => exact eqv_21.trans (decide_eq_false (by simp)).symm
        | nd j => exact (eqv_ne2 (eqv_t (by decide))).trans (decide_eq_false (by simp)).symm
      | wd z => cases y with
        | num m => exact (eqv_ne2 (eqv_t (by decide))).trans (decide_eq_false (by simp)).symm
        | wd u => exact ((eqv_2 (eqv_s _)).trans (eqv_str z u)).trans (by by_cases e : z = u <;> simp [e])
        | gap => exact eqv_21.trans (decide_eq_false (by simp)).symm
        | nd j => exact (eqv_ne2 (eqv_t (by decide))).trans (decide_eq_false (by simp)).symm
      | gap => cases y with
        | gap => exact (eqv_one (eqv_s _)).trans (decide_eq_true rfl).symm
        | _ => exact eqv_12.trans (decide_eq_false (by simp)).symm
      | nd i => cases y with
        | num m => exact (eqv_ne2 (eqv_t (by decide))).trans (decide_eq_false (by simp)).symm
        | wd u => exact (eqv_ne2 (eqv_t (by decide))).trans (decide_eq_false (by simp)).symm
        | gap => exact eqv_21.trans (decide_eq_false (by simp)).symm
        | nd j => exact ((eqv_2 (eqv_s _)).trans (eqv_int _ _)).trans (by by_cases e : i = j <;> simp [e, Int.ofNat_inj])
def oiV : Option Itm → List V
  | none => [.str "missing"]
  | some it => itV it
theorem dp_oi {K : PySem.W.Frag} {H : Hp} {t : Addr} {it : Option Itm} (h : SqT K H t (oiV it)) : Dp K H (.ref t) (oiD it) := by
  cases it with
  | none => exact .tup h (.cons (.str _) .nil)
  | some it => exact dp_it h
theorem sh_oi {it : Option Itm} (h : ∀ w, it = some (.wd w) → PyData.strOk w = true) : Sh 1 (oiD it) := by
  cases it with
  | none => exact .tuple fun d hd => by rw [List.mem_singleton.mp hd]; exact .str (by decide +kernel)
  | some it => exact sh_it fun w e => h w (by rw [e])
theorem oi_tag (it : Option Itm) : ∃ tg rest, oiV it = .str tg :: rest ∧ (tg = "node" ↔ ∃ i, it = some (.nd i)) := by
  cases it with
  | none => exact ⟨"missing", _, rfl, fun h => absurd h (by decide), fun h => by obtain ⟨i, h⟩ := h; cases h⟩
  | some it =>
    cases it with
    | num n => exact ⟨"number", _, rfl, fun h => absurd h (by decide), fun h => by obtain ⟨i, h⟩ := h; cases h⟩
    | wd w => exact ⟨"word", _, rfl, fun h => absurd h (by decide), fun h => by obtain ⟨i, h⟩ := h; cases h⟩
    | gap => exact ⟨"gap", _, rfl, fun h => absurd h (by decide), fun h => by obtain ⟨i, h⟩ := h; cases h⟩
    | nd i => exact ⟨"node", _, rfl, fun _ => ⟨i, rfl⟩, fun _ => rfl⟩
abbrev keyP (p : Nat × Nat) : List Key := [Sum.inl (p.1 : Int), Sum.inl (p.2 : Int)]
/-! ### the walk of both, purely -/
abbrev Qs := List ((Nat × Nat) × List Int)
/-- what becomes of the items at x -/
def visit (a b : Option Itm) (p : List Int) (x : Nat) (qs : Qs) : Qs ⊕ List Int :=
  match a, b with
  | some (.nd i), some (.nd j) => .inl (if (i, j) ∈ qs.map (·.1) then qs else qs ++ [((i, j), p ++ [(x : Int)])])
  | a, b => if a = b then .inl qs else .inr (p ++ [(x : Int)])
def scan (r1 r2 : List Itm) (p : List Int) : Nat → Nat → Qs → Qs ⊕ List Int
  | 0, _, qs => .inl qs
  | n + 1, x, qs => match visit r1[x]? r2[x]? p x qs with
    | .inl qs' => scan r1 r2 p n (x + 1) qs'
    | .inr e => .inr e
theorem scan_succ (r1 r2 : List Itm) (p : List Int) (n x : Nat) (qs : Qs) : scan r1 r2 p (n + 1) x qs = match visit r1[x]? r2[x]? p x qs with
    | .inl qs' => scan r1 r2 p n (x + 1) qs'
    | .inr e => .inr e := rfl
theorem scan_zero (r1 r2 : List Itm) (p : List Int) (x : Nat) (qs : Qs) : scan r1 r2 p 0 x qs = .inl qs := rfl
def bfs (R1 R2 : List (List Itm)) : Nat → Nat → Qs → Option (List Int)
  | 0, _, _ => none
  | n + 1, at_, qs => match qs[at_]? with
    | none => none
    | some (p, z) => match scan (R1.getD p.1 []) (R2.getD p.2 []) z (max (R1.getD p.1 []).length (R2.getD p.2 []).length) 0 qs with
      | .inl qs' => bfs R1 R2 n (at_ + 1) qs'
      | .inr e => some e
/-- the first path at which the rows differ -/
def difP (R1 R2 : List (List Itm)) (i j : Nat) : Option (List Int) := bfs R1 R2 2000 0 [((i, j), [])]
section
variable {P : Program} {w : World} {K : PySem.W.Frag} {mg : Str → Option Value} {base : Heap} {Cp C : Addr}
def spItemAt (aM : Addr) : Sp := fun vs H Q _ => ∃ (b : Addr) (ts : List Addr) (i : Nat), vs = [.ref b, .int i] ∧ H b = some (.lst (ts.map V.ref)) ∧ (∀ t, ts[i]? = some t → Q (.ref t) H) ∧ (ts[i]? = none → Q (.ref aM) H)
abbrev sItem_at : Stmt := top 34
theorem scItem_at : FnScope ["row", "index"] ["row", "index"] (defScope sItem_at) := ⟨rfl, rfl, rfl, by decide +kernel, rfl, by decide +kernel, by decide +kernel⟩
theorem ok_itemAt {f aM : Addr} {fd : FuncData} (F : Fun K "_item_at" "_item_at" sItem_at f fd) (mLen : mg "len" = none) (mg_MISSING : mg "MISSING" = some (.ref aM)) : FnOk P w K mg base CX0 1 f fd ["row", "index"] (spItemAt aM) := by
  refine F.ok scItem_at (fun vs H Q E h => ?_) (fun cdv A outer s H vs Q E hr h => ?_)
  · obtain ⟨b, t, ts, rfl, _⟩ := h
    rfl
  · obtain ⟨b, ts, i, rfl, hb, k1, k2⟩ := h
    refine ⟨_, (pss_one (ps_ret (pe_ifExp (pt_cmpR op_lt (pv 1) (pe_callB (k_len K) (by rfl) mLen (by decide +kernel) (pa_cons (pv 0) pa_nil)) (nomark _)) (pe_ix (ixl K) (pv 0) (pv 1) (fun _ _ => rfl)) (pe_glob (v := .ref _) rfl mg_MISSING rfl)))), ?_⟩
    refine ⟨_, rfl, _, rfl, b, _, rfl, .inl (.of hb), _, _, rfl, rfl, _, rfl, ?_⟩
    rw [List.length_map]
    by_cases lt : i < ts.length
    · rw [decide_eq_true (by omega : (i : Int) < (ts.length : Nat))]
      have hi := List.getElem?_eq_getElem lt
      refine iteT ⟨_, rfl, _, rfl, b, _, (i : Nat), _, rfl, rfl, .of hb, atI_nat (by rw [List.getElem?_map, hi]; rfl), k1 _ hi⟩
    · rw [decide_eq_false (by omega : ¬ (i : Int) < (ts.length : Nat))]
      exact iteF (k2 (List.getElem?_eq_none (by omega)))
/-- all but lists and dicts with tuples as keys stays -/
def NoLT (o : HO) : Prop := (∀ xs, o ≠ .lst xs) ∧ ∀ kvs, o ≠ .dT kvs
def SameP (H H' : Hp) : Prop := ∀ b o, NoLT o → H b = some o → H' b = some o
theorem SameP.refl {H : Hp} : SameP H H := fun _ _ _ h => h
theorem SameP.of {H H' : Hp} (x : Same H H') : SameP H H' := fun b o _ h => x b o h
theorem SameP.trans {H H1 H2 : Hp} (x : SameP H H1) (y : SameP H1 H2) : SameP H H2 := fun b o n h => y b o n (x b o n h)
theorem SameP.putL {H H1 : Hp} {p : Addr} {xs : List V} {o : HO} (x : SameP H H1) (h : H1 p = some (.lst xs)) : SameP H (upd H1 p o) := fun b u n e => by
  have q := x b u n e
  rw [upd_ne (fun z => by rw [z, h] at q; exact n.1 xs (Option.some.inj q).symm)]
  exact q
theorem SameP.putT {H H1 : Hp} {p : Addr} {xs : List (List Key × V)} {o : HO} (x : SameP H H1) (h : H1 p = some (.dT xs)) : SameP H (upd H1 p o) := fun b u n e => by
  have q := x b u n e
  rw [upd_ne (fun z => by rw [z, h] at q; exact n.2 xs (Option.some.inj q).symm)]
  exact q
theorem noLT_tup {xs : List V} : NoLT (.tup xs) := ⟨(fun _ h => nomatch h), (fun _ h => nomatch h)⟩
theorem SameP.tup {K : PySem.W.Frag} {t : Addr} {H H' : Hp} {xs : List V} (x : SameP H H') (h : SqT K H t xs) : SqT K H' t xs := by
  rcases h with (h | ⟨o, h⟩) | h
  · exact .inl (.inl (x _ _ noLT_tup h))
  · exact .inl (.inr ⟨o, x _ _ ⟨(fun _ h => nomatch h), (fun _ h => nomatch h)⟩ h⟩)
  · exact .inr h
theorem keyP_inj {p q : Nat × Nat} (h : keyP p = keyP q) : p = q := by
  obtain ⟨a, b⟩ := p
  obtain ⟨c, d⟩ := q
  unfold keyP at h
  injection h with h1 h2
  injection h2 with h2 _
  injection h1 with h1
  injection h2 with h2
  exact Prod.ext (Int.ofNat.inj h1) (Int.ofNat.inj h2)
/-- a dict of paths, keyed by pairs -/
def PtQ (K : PySem.W.Frag) (H : Hp) (kvs : List (List Key × V)) (qs : Qs) : Prop := Paired (fun (kv : List Key × V) (q : (Nat × Nat) × List Int) => kv.1 = keyP q.1 ∧ ∃ u, kv.2 = .ref u ∧ SqT K H u (q.2.map V.int)) kvs qs
theorem PtQ.len {H : Hp} {kvs : List (List Key × V)} {qs : Qs} (h : PtQ K H kvs qs) : kvs.length = qs.length := Paired.length h
theorem PtQ.sameP {H H' : Hp} {kvs : List (List Key × V)} {qs : Qs} (h : PtQ K H kvs qs) (s : SameP H H') : PtQ K H' kvs qs :=
  paired_same h fun _ _ ⟨a, u, b, c⟩ => ⟨a, u, b, s.tup c⟩
theorem PtQ.none {H : Hp} {kvs : List (List Key × V)} {qs : Qs} (h : PtQ K H kvs qs) {z : Nat × Nat} (n : ¬ z ∈ qs.map (·.1)) : valV kvs (keyP z) = none := by
  induction h with
  | nil => rfl
  | @cons kv q kvs qs a _ ih =>
    rw [List.map_cons, List.mem_cons] at n
    rw [valV_neg (fun e => n (.inl (keyP_inj (a.1.symm.trans e)).symm))]
    exact ih fun m => n (.inr m)
theorem PtQ.at {H : Hp} {kvs : List (List Key × V)} {qs : Qs} (h : PtQ K H kvs qs) : ∀ {p : Nat × Nat} {z : List Int}, (qs.map (·.1)).Nodup → (p, z) ∈ qs → ∃ u, valV kvs (keyP p) = some (.ref u) ∧ SqT K H u (z.map V.int) := by
  induction h with
  | nil => intro p z _ m; cases m
  | @cons kv q kvs qs a _ ih =>
    intro p z nd m
    rw [List.map_cons, List.nodup_cons] at nd
    rcases List.mem_cons.mp m with e | m
    · rw [← e] at a
      obtain ⟨a1, u, a2, a3⟩ := a
      exact ⟨u, by rw [valV_pos a1, a2], a3⟩
    · obtain ⟨u, b1, b2⟩ := ih nd.2 m
      refine ⟨u, ?_, b2⟩
      rw [valV_neg (fun e => nd.1 (by rw [keyP_inj (a.1.symm.trans e)]; exact List.mem_map.mpr ⟨_, m, rfl⟩))]
      exact b1
theorem PtQ.snoc {H : Hp} {kvs : List (List Key × V)} {qs : Qs} {ys : List Int} {z : Nat × Nat} {u : Addr} (h : PtQ K H kvs qs) (n : ¬ z ∈ qs.map (·.1)) (sq : SqT K H u (ys.map V.int)) : PtQ K H (putK kvs (keyP z) (.ref u)) (qs ++ [(z, ys)]) := by
  rw [putK_new _ (h.none n)]
  exact paired_snoc h ⟨rfl, u, rfl, sq⟩
/-- what stands while the rows are walked -/
structure DfI (K : PySem.W.Frag) (m1 m2 : Nat) (H0 H : Hp) (D F : Addr) (qs : Qs) : Prop where
  f : ∃ ts : List Addr, H F = some (.lst (ts.map V.ref)) ∧ Paired (fun t (q : (Nat × Nat) × List Int) => H t = some (.tup [.int (q.1.1 : Nat), .int (q.1.2 : Nat)])) ts qs
  d : ∃ kvs : List (List Key × V), H D = some (.dT kvs) ∧ PtQ K H kvs qs
  nd : (qs.map (·.1)).Nodup
  rg : ∀ q ∈ qs, q.1.1 < m1 ∧ q.1.2 < m2 ∧ q.2.length ≤ qs.length
  s : Same H0 H
theorem pairs_few {m1 m2 : Nat} {qs : Qs} (f1 : m1 ≤ 40) (f2 : m2 ≤ 40) (nd : (qs.map (·.1)).Nodup) (m : ∀ q ∈ qs, q.1.1 < m1 ∧ q.1.2 < m2 ∧ q.2.length ≤ qs.length) : qs.length ≤ 1600 := by
  have q := nodup_le (m := (List.range 40).flatMap (fun i => (List.range 40).map fun j => (i, j))) nd fun p hp => by
    obtain ⟨q, hq, rfl⟩ := List.mem_map.mp hp
    obtain ⟨a, b, _⟩ := m q hq
    exact List.mem_flatMap.mpr ⟨q.1.1, List.mem_range.mpr (by omega), List.mem_map.mpr ⟨q.1.2, List.mem_range.mpr (by omega), rfl⟩⟩
  rw [List.length_map] at q
  exact Nat.le_trans q (by decide +kernel)
theorem cat_any {K : PySem.W.Frag} {H : Hp} {Q : VK} {a b : Addr} {xs ys : List V} (ha : SqT K H a xs) (hb : SqT K H b ys) (ny : ys ≠ []) (hz : xs.length + ys.length ≤ sizeLine) (k : ∀ q H', Same H H' → SqT K H' q (xs ++ ys) → Q (.ref q) H') : rCatA K (.ref a) (.ref b) H Q :=
  ⟨a, b, xs, ys, rfl, rfl, ha, hb, hz, fun e => k b H (Same.refl H) (by rw [e]; exact hb), fun _ e => absurd e ny, fun _ _ p hp => k p _ (Same.new hp) (.of upd_same)⟩
def muD : L2.St → Hp → Nat := fun σ _ => match σ[6]? with
  | some (some (V.int j)) => 10000 - j.toNat
  | _ => 0
def spDiffG (K : PySem.W.Frag) : Sp := fun vs H Q _ => ∃ (a b : Addr) (i j : Nat) (R1 R2 : List (List Itm)), vs = [.ref a, .ref b, .int i, .int j] ∧ RowsA K H a R1 ∧ RowsA K H b R2 ∧ RwsOk R1 ∧ RwsOk R2 ∧ i < R1.length ∧ j < R2.length ∧
  (difP R1 R2 i j = none → ∀ H', Same H H' → Q .non H') ∧ (∀ e, difP R1 R2 i j = some e → ∀ t H', Same H H' → SqT K H' t (e.map V.int) → Q (.ref t) H')
abbrev sDifference_path : Stmt := top 33
theorem scDifference_path : FnScope ["rows", "others", "start", "other_start", "paths", "pairs", "at", "index", "row", "other", "path", "item", "opposite", "pair"] ["rows", "others", "start", "other_start"] (defScope sDifference_path) := ⟨rfl, rfl, rfl, by decide +kernel, rfl, by decide +kernel, by decide +kernel⟩
set_option maxHeartbeats 1000000 in
theorem ok_diffG {f aM : Addr} {fd : FuncData} {dvs : List V} {kws : List (Str × V)} {ar : Arguments} (F : FunD K "difference_path" "difference_path" ar (defBody sDifference_path) (defScope sDifference_path) dvs kws f fd) (mLen : mg "len" = none) (mMax : mg "max" = none) (mRange : mg "range" = none)
    (c__item_at : Cal P w K mg base CX0 1 "_item_at" ["row", "index"] (spItemAt aM)) (qM : ∀ H, SqT K H aM [.str "missing"]) : FnOk P w K mg base CX0 2 f fd ["rows", "others", "start", "other_start"] (spDiffG K) := by
  refine funD_ok F scDifference_path (fun vs H Q E h => ?_) (fun cdv A outer s H vs Q E hr h => ?_)
  · obtain ⟨a, b, i, j, R1, R2, rfl, _⟩ := h
    rfl
  · obtain ⟨a, b, i, j, R1, R2, rfl, hA, hB, O1, O2, li, lj, kN, kS⟩ := h
    have hu : (A.deeper (PyProof.Rows.envOfC "difference_path" (defScope sDifference_path) s.heap.objs.size f cdv)).units + 1 < cLine := by have := hr.units; omega
    have hr__item_at := hr
    refine ⟨_, (pss_cons (ps_set (i := 4) scDifference_path.nd rfl (by first | exact Or.inl rfl | exact Or.inr rfl) (pe_d1T hu (pe_tup (pa_cons (pv 2) (pa_cons (pv 3) pa_nil))) (pe_tup pa_nil)))
      (pss_cons (ps_set (i := 5) scDifference_path.nd rfl (by first | exact Or.inl rfl | exact Or.inr rfl) (pe_lst (pa_cons (pe_tup (pa_cons (pv 2) (pa_cons (pv 3) pa_nil))) pa_nil)))
      (pss_cons (ps_set (i := 6) scDifference_path.nd rfl (by first | exact Or.inl rfl | exact Or.inr rfl) pe_int)
      (pss_cons (ps_while PassesOwn.never (pt_cmpR op_lt (pv 6) (pe_callB (k_len K) (by rfl) mLen (by decide +kernel) (pa_cons (pv 5) pa_nil)) (nomark _))
        (pss_cons (ps_par (i := 8) (j := 9) (by rfl) scDifference_path.nd rfl rfl (by decide) rfl rfl (pa_cons (pe_ix (ixl K) (pv 0) (pe_ix (ixt K) (pe_ix (ixl K) (pv 5) (pv 6) (fun _ _ => rfl)) pe_int (fun _ _ => rfl)) (fun _ _ => rfl)) (pa_cons (pe_ix (ixl K) (pv 1) (pe_ix (ixt K) (pe_ix (ixl K) (pv 5) (pv 6) (fun _ _ => rfl)) pe_int (fun _ _ => rfl)) (fun _ _ => rfl)) pa_nil)) (by rfl))
        (pss_cons (ps_for PassesOwn.never rfl (pi_range1 (by rfl) mRange (pa_cons (pe_callB (call_max2 rfl) (by rfl) mMax (by decide +kernel) (pa_cons (pe_callB (k_len K) (by rfl) mLen (by decide +kernel) (pa_cons (pv 8) pa_nil)) (pa_cons (pe_callB (k_len K) (by rfl) mLen (by decide +kernel) (pa_cons (pv 9) pa_nil)) pa_nil))) pa_nil)) (pg_name (i := 7) scDifference_path.nd rfl (by first | exact Or.inl rfl | exact Or.inr rfl))
          (pss_cons (ps_set (i := 10) scDifference_path.nd rfl (by first | exact Or.inl rfl | exact Or.inr rfl) (pe_op op_catA (pe_dget hu (pv 4) (pe_ix (ixl K) (pv 5) (pv 6) (fun _ _ => rfl)) (fun _ _ => rfl)) (pe_tup (pa_cons (pv 7) pa_nil))))
          (pss_cons (ps_par (i := 11) (j := 12) (by rfl) scDifference_path.nd rfl rfl (by decide) rfl rfl (pa_cons (pe_cal c__item_at hr__item_at pass0 (pa_cons (pv 8) (pa_cons (pv 7) pa_nil))) (pa_cons (pe_cal c__item_at hr__item_at pass0 (pa_cons (pv 9) (pa_cons (pv 7) pa_nil))) pa_nil)) (by rfl))
          (pss_one (ps_if (PW.pt (pw_and (pt_cmpR op_eq (pe_ix (ixt K) (pv 11) pe_int (fun _ _ => rfl)) pe_str (nomark _)) (pw_and1 (pt_cmpR op_eq (pe_ix (ixt K) (pv 12) pe_int (fun _ _ => rfl)) pe_str (nomark _)))))
            (pss_cons (ps_set (i := 13) scDifference_path.nd rfl (by first | exact Or.inl rfl | exact Or.inr rfl) (pe_tup (pa_cons (pe_ix (ixt K) (pv 11) pe_int (fun _ _ => rfl)) (pa_cons (pe_ix (ixt K) (pv 12) pe_int (fun _ _ => rfl)) pa_nil))))
            (pss_one (ps_if (pt_cmp (pc_dnotin hu (pv 13) (pv 4)))
              (pss_cons (ps_asg (pv 10) (pg_sub (pv 4) (pv 13) (set_dict hu)))
              (pss_one (ps_expr (pe_bm PySem.F.plainAttrs_list PySem.F.slot_list_append PySem.F.type_list_append mt_append (pv 5) (pa_cons (pv 13) pa_nil))))) pss_nil))) (pss_one (ps_if (pt_cmpR (neD K hr) (pv 11) (pv 12) (nomark _))
              (pss_one (ps_ret (pv 10))) pss_nil)))))))
        (pss_one (ps_aug (i := 6) scDifference_path.nd rfl (by first | exact Or.inl rfl | exact Or.inr rfl) pe_int ip_add)))))
      (pss_one (ps_ret pe_non)))))), ?_⟩
    refine fun D hD => ⟨_, rfl, _, rfl, (by show 2 ≤ sizeLine; decide), fun t1 ht1 => ⟨(by show 0 ≤ sizeLine; decide), fun t2 ht2 => ?_⟩⟩
    have nt1 : t1 ≠ D := ne_none ht1 upd_same
    have nt2 : t2 ≠ t1 := ne_none ht2 upd_same
    have nt2D : t2 ≠ D := ne_none (a := D) (o := .dT []) ht2 (by rw [upd_ne (Ne.symm nt1), upd_same])
    refine ⟨_, _, t1, keyP (i, j), rfl, rfl, by rw [upd_ne (Ne.symm nt2), upd_same]; rfl, by rw [upd_ne (Ne.symm nt2D), upd_ne (Ne.symm nt1), upd_same], ?_⟩
    have s0 : Same H (upd (upd (upd (upd H D (.dT [])) t1 (.tup [.int (i : Nat), .int (j : Nat)])) t2 (.tup [])) D (.dT [(keyP (i, j), .ref t2)])) := ((Same.new hD).trans ((Same.new ht1).trans (Same.new ht2))).mut hD
    have d0 : (upd (upd (upd (upd H D (.dT [])) t1 (.tup [.int (i : Nat), .int (j : Nat)])) t2 (.tup [])) D (.dT [(keyP (i, j), .ref t2)])) D = some (.dT [(keyP (i, j), .ref t2)]) := upd_same
    have e0 : (upd (upd (upd (upd H D (.dT [])) t1 (.tup [.int (i : Nat), .int (j : Nat)])) t2 (.tup [])) D (.dT [(keyP (i, j), .ref t2)])) t2 = some (.tup []) := by rw [upd_ne nt2D, upd_same]
    generalize (upd (upd (upd (upd H D (.dT [])) t1 (.tup [.int (i : Nat), .int (j : Nat)])) t2 (.tup [])) D (.dT [(keyP (i, j), .ref t2)])) = HA at s0 d0 e0
    refine ⟨_, rfl, _, rfl, (by show 2 ≤ sizeLine; decide), fun t3 ht3 => ⟨(by show 1 ≤ sizeLine; decide), fun F hF => ?_⟩⟩
    have I0 : DfI K R1.length R2.length H (upd (upd HA t3 (.tup [.int (i : Nat), .int (j : Nat)])) F (.lst [.ref t3])) D F [((i, j), [])] := by
      have s1 := (Same.new (o := .tup [.int (i : Nat), .int (j : Nat)]) ht3).trans (Same.new (o := .lst [.ref t3]) hF)
      refine ⟨⟨[t3], upd_same, .cons ?_ .nil⟩, ⟨_, s1 _ _ d0, .cons ⟨rfl, t2, rfl, .of (s1 _ _ e0)⟩ .nil⟩, by simp, fun p hp => ?_, s0.trans s1⟩
      · exact (Same.new hF) _ _ upd_same
      · rw [List.mem_singleton.mp hp]; exact ⟨li, lj, Nat.zero_le _⟩
    have nF : H F = none := by
      cases e : H F with
      | none => rfl
      | some o => rw [(s0.trans (Same.new ht3)) _ _ e] at hF; cases hF
    have FD : F ≠ D := ne_none hF ((Same.new ht3) _ _ d0)
    generalize (upd (upd HA t3 (.tup [.int (i : Nat), .int (j : Nat)])) F (.lst [.ref t3])) = HB at I0
    have sz : (5000 : Nat) < sizeLine := by decide
    refine while_by (fun σ H' => ∃ (qs : Qs) (n : Nat) (v7 v8 v9 v10 v11 v12 v13 : Option V), σ = [some (.ref a), some (.ref b), some (.int (i : Nat)), some (.int (j : Nat)), some (.ref D), some (.ref F), some (.int (n : Nat)), v7, v8, v9, v10, v11, v12, v13] ∧ DfI K R1.length R2.length H H' D F qs ∧ n ≤ qs.length ∧ bfs R1 R2 (2000 - n) n qs = difP R1 R2 i j) muD
      ⟨[((i, j), [])], 0, none, none, none, none, none, none, none, rfl, I0, Nat.zero_le _, rfl⟩ ?_ ?_
    · rintro σ HC ⟨qs, n, v7, v8, v9, v10, v11, v12, v13, rfl, I, ln, eb⟩
      have few := pairs_few O1.few O2.few I.nd I.rg
      obtain ⟨ts, hf, pf⟩ := I.f
      have lf := Paired.length pf
      refine ⟨_, rfl, _, rfl, F, _, rfl, .inl (.of hf), _, _, rfl, rfl, _, rfl, ?_⟩
      rw [List.length_map, lf]
      have e2000 : 2000 - n = (2000 - (n + 1)) + 1 := by omega
      by_cases lt : n < qs.length
      · rw [decide_eq_true (by omega : (n : Int) < (qs.length : Nat))]
        refine iteT ?_
        have hp := List.getElem?_eq_getElem lt
        generalize qs[n] = pz at hp
        obtain ⟨p, z⟩ := pz
        have pm := List.mem_of_getElem? hp
        obtain ⟨t, ht, htp⟩ := paired_at pf hp
        obtain ⟨r1, hr1⟩ : ∃ r1, R1[p.1]? = some r1 := ⟨_, List.getElem?_eq_getElem (I.rg _ pm).1⟩
        obtain ⟨r2, hr2⟩ : ∃ r2, R2[p.2]? = some r2 := ⟨_, List.getElem?_eq_getElem (I.rg _ pm).2.1⟩
        have g1 : R1.getD p.1 [] = r1 := by rw [List.getD_eq_getElem?_getD, hr1]; rfl
        have g2 : R2.getD p.2 [] = r2 := by rw [List.getD_eq_getElem?_getD, hr2]; rfl
        rw [e2000] at eb
        unfold bfs at eb
        rw [hp] at eb
        simp only [g1, g2] at eb
        obtain ⟨bs1, ha1, pa1⟩ := id hA
        obtain ⟨bs2, hb2, pb2⟩ := id hB
        obtain ⟨b1, gb1, ts1, q1, it1⟩ := paired_at pa1 hr1
        obtain ⟨b2, gb2, ts2, q2, it2⟩ := paired_at pb2 hr2
        have t1m : (ts.map V.ref)[n]? = some (.ref t) := by rw [List.getElem?_map, ht]; rfl
        have b1m : (bs1.map V.ref)[p.1]? = some (.ref b1) := by rw [List.getElem?_map, gb1]; rfl
        have b2m : (bs2.map V.ref)[p.2]? = some (.ref b2) := by rw [List.getElem?_map, gb2]; rfl
        have l1 := Paired.length it1
        have l2 := Paired.length it2
        have rw1 := O1.row r1 (List.mem_of_getElem? hr1)
        have rw2 := O2.row r2 (List.mem_of_getElem? hr2)
        refine ⟨_, rfl, _, rfl, _, rfl, F, _, (n : Nat), _, rfl, rfl, .of hf, atI_nat t1m, ?_⟩
        refine ⟨t, _, (0 : Nat), _, rfl, rfl, .of htp, rfl, a, _, p.1, _, rfl, rfl, .of (I.s _ _ ha1), atI_nat b1m, ?_⟩
        refine ⟨_, rfl, _, rfl, _, rfl, F, _, (n : Nat), _, rfl, rfl, .of hf, atI_nat t1m, t, _, (1 : Nat), _, rfl, rfl, .of htp, rfl, b, _, p.2, _, rfl, rfl, .of (I.s _ _ hb2), atI_nat b2m, _, _, rfl, ?_⟩
        have lm : (max r1.length r2.length : Nat) ≤ 12 := by have := rw1.1; have := rw2.1; omega
        have mx : (if (r2.length : Int) > (r1.length : Int) then (r2.length : Int) else (r1.length : Int)) = ((max r1.length r2.length : Nat) : Int) := by
          by_cases e : r1.length < r2.length
          · rw [if_pos (by omega), Nat.max_eq_right (by omega)]
          · rw [if_neg (by omega), Nat.max_eq_left (by omega)]
        refine ⟨_, rfl, b1, _, rfl, .inl (.of (I.s _ _ q1)), _, rfl, b2, _, rfl, .inl (.of (I.s _ _ q2)), _, _, rfl, ((max r1.length r2.length : Nat) : Int), (by rw [List.length_map, List.length_map, l1, l2, mx]), Int.natCast_nonneg _, (by omega), ?_⟩
        generalize (max r1.length r2.length : Nat) = N at lm eb
        generalize hres : scan r1 r2 z N 0 qs = res at eb
        refine for_range (lo := 0) (n := N) (fun x σ H' => ∃ (qs' : Qs) (w7 w10 w11 w12 w13 : Option V), σ = [some (.ref a), some (.ref b), some (.int (i : Nat)), some (.int (j : Nat)), some (.ref D), some (.ref F), some (.int (n : Nat)), w7, some (.ref b1), some (.ref b2), w10, w11, w12, w13] ∧ DfI K R1.length R2.length H H' D F qs' ∧
          (∀ (m : Nat) y, qs[m]? = some y → qs'[m]? = some y) ∧ scan r1 r2 z (N - x) x qs' = res) ⟨qs, _, _, _, _, _, rfl, I, fun _ _ h => h, hres⟩ ?_ ?_
        · rintro x σ HE hx ⟨qs', w7, w10, w11, w12, w13, rfl, I', mo, es⟩
          rw [Int.zero_add]
          have few' := pairs_few O1.few O2.few I'.nd I'.rg
          have eN : N - x = (N - (x + 1)) + 1 := by omega
          rw [eN, scan_succ] at es
          obtain ⟨ts', hf', pf'⟩ := I'.f
          obtain ⟨kvs, hd', pt'⟩ := I'.d
          have hp' := mo _ _ hp
          have pm' := List.mem_of_getElem? hp'
          obtain ⟨t', ht', htp'⟩ := paired_at pf' hp'
          have t1m' : (ts'.map V.ref)[n]? = some (.ref t') := by rw [List.getElem?_map, ht']; rfl
          obtain ⟨u, hv, hz⟩ := pt'.at I'.nd pm'
          have zl : z.length ≤ qs'.length := (I'.rg _ pm').2.2
          have lk := pt'.len
          refine ⟨_, rfl, _, rfl, _, rfl, F, _, (n : Nat), _, rfl, rfl, .of hf', atI_nat t1m', D, .ref u, rfl, hv ▸ DGet.t (k := keyP p) hd' htp', _, rfl, (by show 1 ≤ sizeLine; decide), fun t1 ht1 => ?_⟩
          refine cat_any ((Same.new ht1).tup hz) (.of upd_same) (by simp) (by rw [List.length_map, List.length_singleton]; omega) fun q HF s2 hq => ?_
          have s2 : Same HE HF := (Same.new ht1).trans s2
          have hq : SqT K HF q ((z ++ [(x : Int)]).map V.int) := by rw [List.map_append]; exact hq
          have sHF := I'.s.trans s2
          have hf2 := s2 _ _ hf'
          have hd2 := s2 _ _ hd'
          have I2 : DfI K R1.length R2.length H HF D F qs' := ⟨⟨ts', hf2, paired_same pf' fun _ _ q => s2 _ _ q⟩, ⟨kvs, hd2, pt'.sameP (.of s2)⟩, I'.nd, I'.rg, sHF⟩
          -- the two items
          have item : ∀ {r : List Itm} {tt : List Addr}, Paired (ItA K H) tt r → (∀ t, tt[x]? = some t → SqT K HF t (oiV r[x]?)) ∧ (tt[x]? = none → SqT K HF aM (oiV r[x]?)) := fun {r tt} pr => ⟨fun t h => by
            obtain ⟨it, hi, sq⟩ := L2.paired_get pr h
            rw [hi]; exact sHF.tup sq, fun h => by
            have e : r[x]? = none := List.getElem?_eq_none (by have := Paired.length pr; have := List.getElem?_eq_none_iff.mp h; omega)
            rw [e]; exact qM _⟩
          have both1 : ∀ {A : Addr → Prop}, (∀ t, SqT K HF t (oiV r1[x]?) → A t) → (∀ t, ts1[x]? = some t → A t) ∧ (ts1[x]? = none → A aM) := fun k => ⟨fun t h => k t ((item it1).1 t h), fun h => k aM ((item it1).2 h)⟩
          have both2 : ∀ {A : Addr → Prop}, (∀ t, SqT K HF t (oiV r2[x]?) → A t) → (∀ t, ts2[x]? = some t → A t) ∧ (ts2[x]? = none → A aM) := fun k => ⟨fun t h => k t ((item it2).1 t h), fun h => k aM ((item it2).2 h)⟩
          refine ⟨_, rfl, _, rfl, b1, ts1, x, rfl, sHF _ _ q1, both1 fun tA sqA => ?_⟩
          refine ⟨_, rfl, _, rfl, b2, ts2, x, rfl, sHF _ _ q2, both2 fun tB sqB => ⟨_, _, rfl, ?_⟩⟩
          have okA : ∀ w, r1[x]? = some (.wd w) → PyData.strOk w = true := fun w e => rw1.2.1 w (List.mem_of_getElem? e)
          have okB : ∀ w, r2[x]? = some (.wd w) → PyData.strOk w = true := fun w e => rw2.2.1 w (List.mem_of_getElem? e)
          have rgA : ∀ i', r1[x]? = some (.nd i') → i' < R1.length := fun i' e => rw1.2.2 i' (List.mem_of_getElem? e)
          have rgB : ∀ j', r2[x]? = some (.nd j') → j' < R2.length := fun j' e => rw2.2.2 j' (List.mem_of_getElem? e)
          generalize r1[x]? = oa at sqA okA rgA es
          generalize r2[x]? = ob at sqB okB rgB es
          -- where one of them is no node
          have other : (¬ (∃ i', oa = some (.nd i')) ∨ ¬ ∃ j', ob = some (.nd j')) → visit oa ob z x qs' = if oa = ob then .inl qs' else .inr (z ++ [(x : Int)]) := fun h => by
            unfold visit
            split
            · rename_i i' j'
              rcases h with h | h
              · exact absurd ⟨_, rfl⟩ h
              · exact absurd ⟨_, rfl⟩ h
            · rfl
          have stop : ∀ {H'}, Same HF H' → visit oa ob z x qs' = .inr (z ++ [(x : Int)]) → Q (.ref q) H' := fun {H'} sx ev => by
            rw [ev] at es
            simp only at es
            rw [← es] at eb
            simp only at eb
            exact kS _ eb.symm q H' (sHF.trans sx) (sx.tup hq)
          by_cases isn : ∃ i', oa = some (.nd i')
          · obtain ⟨i', rfl⟩ := isn
            refine ⟨_, rfl, tA, _, (0 : Nat), _, rfl, rfl, sqA, rfl, rfl, _, rfl, ite2 (fun _ => ?_) fun e => absurd (decide_eq_true rfl) e⟩
            by_cases isn2 : ∃ j', ob = some (.nd j')
            · obtain ⟨j', rfl⟩ := isn2
              refine ⟨_, rfl, tB, _, (0 : Nat), _, rfl, rfl, sqB, rfl, rfl, _, rfl, ite2 (fun _ => ?_) fun e => absurd (decide_eq_true rfl) e⟩
              refine ⟨_, rfl, tA, _, (1 : Nat), _, rfl, rfl, sqA, rfl, _, rfl, tB, _, (1 : Nat), _, rfl, rfl, sqB, rfl, (by show 2 ≤ sizeLine; decide), fun t2 ht2 => ?_⟩
              have s3 : Same HF (upd HF t2 (.tup [.int (i' : Nat), .int (j' : Nat)])) := Same.new ht2
              have h2 : (upd HF t2 (.tup [.int (i' : Nat), .int (j' : Nat)])) t2 = some (.tup ((keyP (i', j')).map kV)) := upd_same
              generalize (upd HF t2 (.tup [.int (i' : Nat), .int (j' : Nat)])) = HG at s3 h2
              have hd3 := s3 _ _ hd2
              have hf3 := s3 _ _ hf2
              have pt3 := (pt'.sameP (.of s2)).sameP (.of s3)
              have pf3 : Paired (fun t (q : (Nat × Nat) × List Int) => HG t = some (.tup [.int (q.1.1 : Nat), .int (q.1.2 : Nat)])) ts' qs' := paired_same pf' fun _ _ q => s3 _ _ (s2 _ _ q)
              have ev : visit (some (.nd i')) (some (.nd j')) z x qs' = .inl (if (i', j') ∈ qs'.map (·.1) then qs' else qs' ++ [((i', j'), z ++ [(x : Int)])]) := rfl
              rw [ev] at es
              simp only at es
              by_cases isin : (i', j') ∈ qs'.map (·.1)
              · rw [if_pos isin] at es
                obtain ⟨⟨p3, z3⟩, m3, e3⟩ := List.mem_map.mp isin
                obtain ⟨u2, hv2, _⟩ := pt3.at I'.nd m3
                have e3 : p3 = (i', j') := e3
                rw [e3] at hv2
                refine ⟨_, rfl, _, rfl, D, some (.ref u2), rfl, hv2 ▸ DGet.t hd3 h2, _, rfl, iteF ?_⟩
                exact ⟨qs', _, _, _, _, _, rfl, ⟨⟨ts', hf3, pf3⟩, ⟨kvs, hd3, pt3⟩, I'.nd, I'.rg, sHF.trans s3⟩, mo, es⟩
              · rw [if_neg isin] at es
                refine ⟨_, rfl, _, rfl, D, none, rfl, (pt3.none isin) ▸ DGet.t hd3 h2, _, rfl, iteT ?_⟩
                refine ⟨_, rfl, _, rfl, _, rfl, D, _, rfl, DPut.t hd3 h2 (by omega), ?_⟩
                have hf4 : (upd HG D (.dT (putK kvs (keyP (i', j')) (.ref q)))) F = some (.lst (ts'.map V.ref)) := by rw [upd_ne FD]; exact hf3
                have sP : SameP HG (upd HG D (.dT (putK kvs (keyP (i', j')) (.ref q)))) := SameP.putT .refl hd3
                have hd4 : (upd HG D (.dT (putK kvs (keyP (i', j')) (.ref q)))) D = some (.dT (putK kvs (keyP (i', j')) (.ref q))) := upd_same
                have pt4 : PtQ K (upd HG D (.dT (putK kvs (keyP (i', j')) (.ref q)))) (putK kvs (keyP (i', j')) (.ref q)) (qs' ++ [((i', j'), z ++ [(x : Int)])]) :=
                  (pt3.snoc isin (s3.tup hq)).sameP sP
                have s4 : Same H (upd HG D (.dT (putK kvs (keyP (i', j')) (.ref q)))) := (sHF.trans s3).mut hD
                have h24 := sP _ _ noLT_tup h2
                generalize (upd HG D (.dT (putK kvs (keyP (i', j')) (.ref q)))) = HI at hf4 sP hd4 pt4 s4 h24
                refine ⟨_, rfl, .inl ⟨rfl, _, .of hf4⟩, _, rfl, F, _, _, rfl, rfl, hf4, (by rw [List.length_map, Paired.length pf']; omega), ?_⟩
                have sP5 : SameP HI (upd HI F (.lst (ts'.map V.ref ++ [.ref t2]))) := SameP.putL .refl hf4
                refine ⟨qs' ++ [((i', j'), z ++ [(x : Int)])], _, _, _, _, _, rfl, ⟨⟨ts' ++ [t2], by rw [upd_same, List.map_append]; rfl, ?_⟩, ⟨_, by rw [upd_ne (Ne.symm FD)]; exact hd4, pt4.sameP sP5⟩, ?_, ?_, s4.mut nF⟩, fun m y h => ?_, es⟩
                · exact paired_snoc (paired_same pf3 fun _ _ z => sP5 _ _ noLT_tup (sP _ _ noLT_tup z)) (sP5 _ _ noLT_tup h24)
                · rw [List.map_append, List.nodup_append]
                  exact ⟨I'.nd, List.nodup_cons.mpr ⟨(by simp), List.nodup_nil⟩, fun a ha b hb e => isin (by
                    have hb : b = (i', j') := List.mem_singleton.mp hb
                    rw [← hb, ← e]; exact ha)⟩
                · intro y hy
                  rw [List.length_append, List.length_singleton]
                  rcases List.mem_append.mp hy with h | h
                  · obtain ⟨c1, c2, c3⟩ := I'.rg y h
                    exact ⟨c1, c2, by omega⟩
                  · rw [List.mem_singleton.mp h]
                    exact ⟨rgA i' rfl, rgB j' rfl, by rw [List.length_append, List.length_singleton]; omega⟩
                · have q := mo m y h
                  rw [List.getElem?_append_left (List.getElem?_eq_some_iff.mp q).1]
                  exact q
            · obtain ⟨tg, rest, e1, e2⟩ := oi_tag ob
              have sqB1 := sqB
              rw [e1] at sqB1
              refine ⟨_, rfl, tB, _, (0 : Nat), _, rfl, rfl, sqB1, atI_nat rfl, rfl, _, rfl, ite2 (fun e => absurd (e2.mp (V.str.inj (of_decide_eq_true e))) isn2) fun _ => ?_⟩
              refine ⟨_, rfl, _, rfl, oiD (some (.nd i')), oiD ob, dp_oi sqA, dp_oi sqB, (sh_oi okA).sh, (sh_oi okB).sh, _, rfl, ?_⟩
              have ev := other (.inr isn2)
              rw [eqv_oi]
              by_cases ee : some (Itm.nd i') = ob
              · exact absurd ⟨i', ee.symm⟩ isn2
              · rw [decide_eq_false ee]
                rw [if_neg ee] at ev
                exact iteT ⟨_, rfl, stop (Same.refl _) ev⟩
          · obtain ⟨tg, rest, e1, e2⟩ := oi_tag oa
            have sqA1 := sqA
            rw [e1] at sqA1
            refine ⟨_, rfl, tA, _, (0 : Nat), _, rfl, rfl, sqA1, atI_nat rfl, rfl, _, rfl, ite2 (fun e => absurd (e2.mp (V.str.inj (of_decide_eq_true e))) isn) fun _ => ?_⟩
            refine iteF ⟨_, rfl, _, rfl, oiD oa, oiD ob, dp_oi sqA, dp_oi sqB, (sh_oi okA).sh, (sh_oi okB).sh, _, rfl, ?_⟩
            have ev := other (.inl isn)
            rw [eqv_oi]
            by_cases ee : oa = ob
            · rw [decide_eq_true ee]
              rw [if_pos ee] at ev
              rw [ev] at es
              simp only at es
              exact iteF ⟨qs', _, _, _, _, _, rfl, I2, mo, es⟩
            · rw [decide_eq_false ee]
              rw [if_neg ee] at ev
              exact iteT ⟨_, rfl, stop (Same.refl _) ev⟩
        · rintro σ HE ⟨qs', w7, w10, w11, w12, w13, rfl, I', mo, es⟩
          rw [Nat.sub_self, scan_zero] at es
          rw [← es] at eb
          have lq : qs.length ≤ qs'.length := by
            by_cases h : qs.length = 0
            · omega
            · have := (List.getElem?_eq_some_iff.mp (mo (qs.length - 1) _ (List.getElem?_eq_getElem (by omega)))).1
              omega
          refine ⟨_, rfl, _, _, rfl, rfl, ⟨qs', n + 1, _, _, _, _, _, _, _, rfl, I', by omega, eb⟩, ?_⟩
          show 10000 - ((n : Int) + 1).toNat < 10000 - (n : Int).toNat
          omega
      · rw [decide_eq_false (by omega : ¬ (n : Int) < (qs.length : Nat))]
        refine iteF (kN ?_ _ I.s)
        rw [e2000] at eb
        unfold bfs at eb
        rw [List.getElem?_eq_none (by omega)] at eb
        exact eb.symm
    · rintro σ H' Q Q' m ⟨x, e1, y, e2, a, ys, e3, h1, i, j, e4, e5, c, e6, q⟩
      exact ⟨x, e1, y, e2, a, ys, e3, h1, i, j, e4, e5, c, e6, m _ _ q⟩
end
end Mf
namespace Mf
open PySem L2
/-! ### all but one stays -/
def But (x : Addr) (H H' : Hp) : Prop := ∀ b o, b ≠ x → H b = some o → H' b = some o
theorem But.trans {x : Addr} {H H1 H2 : Hp} (a : But x H H1) (b : But x H1 H2) : But x H H2 := fun c o n h => b c o n (a c o n h)
theorem But.of {x : Addr} {H H' : Hp} (s : Same H H') : But x H H' := fun b o _ h => s b o h
theorem But.upd {x : Addr} {H : Hp} {o : HO} : But x H (upd H x o) := fun b _ n e => by rw [upd_ne n]; exact e
theorem putK_le {κ : Type} [DecidableEq κ] (c : List (κ × V)) (k : κ) (x : V) : (putK c k x).length ≤ c.length + 1 := by
  unfold putK
  split
  · rw [List.length_map]; exact Nat.le_succ _
  · rw [List.length_append]; exact Nat.le_refl _
theorem ins_ne {H : Hp} {a b C D d e : Addr} {fs gs : List (Str × V)} (k : Str) (ha : H a = some (.ins C d fs)) (hb : H b = some (.ins D e gs)) (n : fs.lookup k ≠ gs.lookup k) : a ≠ b := fun q => by
  rw [q, hb] at ha
  injection ha with ha
  injection ha with _ _ h
  exact n (by rw [h])
section
variable {P : Program} {w : World} {K : PySem.W.Frag} {mg : Str → Option Value} {base : Heap} {Cp C CS : Addr}
theorem PrgA.but {H H' : Hp} {y d0 Cy p dx d n q : Addr} {fs : List (Str × V)} {us : List Addr} {rs : List Pr} {pl : List Str} (x : PrgA K Cp H p dx d n q us rs pl) (B : But y H H') (hy : H y = some (.ins Cy d0 fs)) (ne : p ≠ y) : PrgA K Cp H' p dx d n q us rs pl :=
  ⟨B _ _ ne x.o, B _ _ (ne_of x.b hy (by intro z; cases z)) x.b, paired_same x.bo fun u r hu => but_tup B hy (fun _ => ⟨(by intro z; cases z), fun _ _ => (by intro z; cases z)⟩) hu,
    fun r hr => paired_same (x.st r hr) fun t s ht => B _ _ (ne_of ht hy (by intro z; cases z)) ht, x.n.mv fun o e => B _ _ (ne_of e hy (by intro z; cases z)) e, B _ _ (ne_of x.q hy (by intro z; cases z)) x.q⟩
theorem Prg.but {H H' : Hp} {y d0 Cy p : Addr} {fs : List (Str × V)} {rs : List Pr} (x : Prg K Cp H p rs) (B : But y H H') (hy : H y = some (.ins Cy d0 fs)) (nn : fs.lookup ("_bodies" : Str) = none) : Prg K Cp H' p rs := by
  obtain ⟨dx, d, n, q, us, pl, a, b⟩ := x
  exact ⟨dx, d, n, q, us, pl, a.but B hy (ins_ne "_bodies" a.o hy (by rw [flP_b, nn]; intro z; cases z)), b⟩
theorem NSet.but {H H' : Hp} {y d0 Cy q : Addr} {fs : List (Str × V)} {ms : List Str} (x : NSet C H q ms) (B : But y H H') (hy : H y = some (.ins Cy d0 fs)) (nn : fs.lookup ("members" : Str) = none) : NSet C H' q ms := by
  obtain ⟨dx, t, a, b, c⟩ := x
  exact ⟨dx, t, B _ _ (ins_ne "members" a hy (by rw [flM_get, nn]; intro z; cases z)) a, B _ _ (ne_of b hy (by intro z; cases z)) b, c⟩
theorem NSet.sameT {H H' : Hp} {q : Addr} {ms : List Str} (x : NSet C H q ms) (s : SameT H H') : NSet C H' q ms :=
  let ⟨dx, t, a, b, c⟩ := x
  ⟨dx, t, s _ _ ⟨(fun _ h => nomatch h), (fun _ h => nomatch h)⟩ a, s _ _ noLD_tup b, c⟩
theorem NumD.but {H H' : Hp} {y d0 Cy d : Addr} {fs : List (Str × V)} {ps : List Str} {val : Str → Int} (x : NumD H d ps val) (B : But y H H') (hy : H y = some (.ins Cy d0 fs)) : NumD H' d ps val :=
  let ⟨k, h, q⟩ := x
  ⟨k, B _ _ (ne_of h hy (by intro z; cases z)) h, q⟩
/-! ### the class Side -/
/-- a broken place that makes a procedure bad -/
def BrkOf (rs : List Pr) (y d : Str) : Prop := ∃ z, Rch (Suc (pls rs) requiring) (· ∈ ([] : List Str)) (· ∈ [y]) z ∧ ReadIn (pls rs) z d
noncomputable def brkB (rs : List Pr) (y d : Str) : Bool := @decide (BrkOf rs y d) (Classical.propDecidable _)
theorem brkB_ms {rs : List Pr} {y d : Str} {ms : List Str} (h : d ∈ ms ↔ BrkOf rs y d) : decide (d ∈ ms) = brkB rs y d := by
  unfold brkB
  by_cases e : d ∈ ms
  · rw [decide_eq_true e, @decide_eq_true _ (Classical.propDecidable _) (h.mp e)]
  · rw [decide_eq_false e, @decide_eq_false _ (Classical.propDecidable _) (fun q => e (h.mpr q))]
noncomputable def fls (rs : List Pr) (y : Str) (br : List Str) : Bool := br.any (brkB rs y)
def flS1 (p : Addr) : List (Str × V) := putF "program" (.ref p) []
def flS2 (p : Addr) (nm : Str) : List (Str × V) := putF "name" (.str nm) (flS1 p)
def flS3 (p : Addr) (nm : Str) (dv : Addr) : List (Str × V) := putF "numbers" (.ref dv) (flS2 p nm)
def flS4 (p : Addr) (nm : Str) (dv : Addr) (st : Nat) : List (Str × V) := putF "start" (.int (st : Nat)) (flS3 p nm dv)
def flS (p : Addr) (nm : Str) (dv : Addr) (st : Nat) (wk : Addr) : List (Str × V) := putF "weak_points" (.ref wk) (flS4 p nm dv st)
theorem flS_p {p : Addr} {nm : Str} {dv : Addr} {st : Nat} {wk : Addr} : (flS p nm dv st wk).lookup ("program" : Str) = some (.ref p) := by
  unfold flS flS4 flS3 flS2 flS1
  rw [lookup_putF, if_neg (by decide), lookup_putF, if_neg (by decide), lookup_putF, if_neg (by decide), lookup_putF, if_neg (by decide), lookup_putF, if_pos rfl]
theorem flS_n {p : Addr} {nm : Str} {dv : Addr} {st : Nat} {wk : Addr} : (flS p nm dv st wk).lookup ("name" : Str) = some (.str nm) := by
  unfold flS flS4 flS3 flS2
  rw [lookup_putF, if_neg (by decide), lookup_putF, if_neg (by decide), lookup_putF, if_neg (by decide), lookup_putF, if_pos rfl]
theorem flS_v {p : Addr} {nm : Str} {dv : Addr} {st : Nat} {wk : Addr} : (flS p nm dv st wk).lookup ("numbers" : Str) = some (.ref dv) := by
  unfold flS flS4 flS3
  rw [lookup_putF, if_neg (by decide), lookup_putF, if_neg (by decide), lookup_putF, if_pos rfl]
theorem flS_s {p : Addr} {nm : Str} {dv : Addr} {st : Nat} {wk : Addr} : (flS p nm dv st wk).lookup ("start" : Str) = some (.int (st : Nat)) := by
  unfold flS flS4
  rw [lookup_putF, if_neg (by decide), lookup_putF, if_pos rfl]
theorem flS_w {p : Addr} {nm : Str} {dv : Addr} {st : Nat} {wk : Addr} : (flS p nm dv st wk).lookup ("weak_points" : Str) = some (.ref wk) := by
  unfold flS
  rw [lookup_putF, if_pos rfl]
theorem flS_f {p : Addr} {nm : Str} {dv : Addr} {st : Nat} {wk : Addr} : (flS p nm dv st wk).lookup ("fails" : Str) = none := by
  unfold flS flS4 flS3 flS2 flS1
  rw [lookup_putF, if_neg (by decide), lookup_putF, if_neg (by decide), lookup_putF, if_neg (by decide), lookup_putF, if_neg (by decide), lookup_putF, if_neg (by decide)]; rfl
theorem flS_r {p : Addr} {nm : Str} {dv : Addr} {st : Nat} {wk : Addr} : (flS p nm dv st wk).lookup ("world_rows" : Str) = none := by
  unfold flS flS4 flS3 flS2 flS1
  rw [lookup_putF, if_neg (by decide), lookup_putF, if_neg (by decide), lookup_putF, if_neg (by decide), lookup_putF, if_neg (by decide), lookup_putF, if_neg (by decide)]; rfl
theorem flS4_m {p : Addr} {nm : Str} {dv : Addr} {st : Nat} : (flS4 p nm dv st).lookup ("members" : Str) = none := by
  unfold flS4 flS3 flS2 flS1
  rw [lookup_putF, if_neg (by decide), lookup_putF, if_neg (by decide), lookup_putF, if_neg (by decide), lookup_putF, if_neg (by decide)]; rfl
theorem flS4_b {p : Addr} {nm : Str} {dv : Addr} {st : Nat} : (flS4 p nm dv st).lookup ("_bodies" : Str) = none := by
  unfold flS4 flS3 flS2 flS1
  rw [lookup_putF, if_neg (by decide), lookup_putF, if_neg (by decide), lookup_putF, if_neg (by decide), lookup_putF, if_neg (by decide)]; rfl
/-- a dict of the breaks of all procedures -/
def WkD (C : Addr) (H : Hp) (wk : Addr) (rs : List Pr) (ns : List Str) : Prop := ∃ kvs : List (Key × V), H wk = some (.dK kvs) ∧ kvs.length ≤ ns.length ∧ ∀ z ∈ ns, ∃ q ms, valV kvs (Sum.inr z) = some (.ref q) ∧ NSet C H q ms ∧ ∀ d, d ∈ ms ↔ BrkOf rs z d
/-- a Side stands at x -/
structure SideA (K : PySem.W.Frag) (Cp C CS : Addr) (H : Hp) (x p : Addr) (rs : List Pr) (nm : Str) (st : Nat) (dv : Addr) (ps : List Str) (val : Str → Int) : Prop where
  o : ∃ dx wk, H x = some (.ins CS dx (flS p nm dv st wk)) ∧ WkD C H wk rs (rs.map Pr.name)
  prg : Prg K Cp H p rs
  nv : NumD H dv ps val
  st : (rs.map Pr.name)[st]? = some nm
  sub : ∀ d ∈ readsOf rs, d ∈ ps
theorem WkD.same {H H' : Hp} {wk : Addr} {rs : List Pr} {ns : List Str} (x : WkD C H wk rs ns) (s : Same H H') : WkD C H' wk rs ns :=
  let ⟨kvs, h, l, q⟩ := x
  ⟨kvs, s _ _ h, l, fun z hz => let ⟨t, ms, a, b, c⟩ := q z hz; ⟨t, ms, a, b.same s, c⟩⟩
theorem SideA.same {H H' : Hp} {x p : Addr} {rs : List Pr} {nm : Str} {st : Nat} {dv : Addr} {ps : List Str} {val : Str → Int} (S : SideA K Cp C CS H x p rs nm st dv ps val) (s : Same H H') : SideA K Cp C CS H' x p rs nm st dv ps val :=
  ⟨let ⟨dx, wk, a, b⟩ := S.o; ⟨dx, wk, s _ _ a, b.same s⟩, S.prg.same s, S.nv.same s, S.st, S.sub⟩
structure SdC (K : PySem.W.Frag) (mg : Str → Option Value) (CS : Addr) : Prop where
  ins : C8.InsC K CS
  nP : NoAttr K CS "program"
  nN : NoAttr K CS "name"
  nV : NoAttr K CS "numbers"
  nS : NoAttr K CS "start"
  nW : NoAttr K CS "weak_points"
  mgC : mg "Side" = some (.ref CS)
/-- the first place of a text in a list -/
def fstIx (z : Str) : List Str → Nat
  | [] => 0
  | y :: ys => if y = z then 0 else fstIx z ys + 1
theorem fstIx_at {z : Str} : ∀ {ns : List Str}, z ∈ ns → ns[fstIx z ns]? = some z
  | [], h => nomatch h
  | y :: ys, h => by
    unfold fstIx
    by_cases e : y = z
    · rw [if_pos e, e]; rfl
    · rw [if_neg e]
      have h2 : z ∈ ys := by
        rcases List.mem_cons.mp h with q | q
        · exact absurd q.symm e
        · exact q
      exact fstIx_at h2
theorem fstIx_no {z : Str} : ∀ {ns : List Str} (m : Nat), m < fstIx z ns → ns[m]? ≠ some z
  | [], m, h => by unfold fstIx at h; omega
  | y :: ys, m, h => by
    unfold fstIx at h
    by_cases e : y = z
    · rw [if_pos e] at h; omega
    · rw [if_neg e] at h
      cases m with
      | zero => intro q; cases q; exact e rfl
      | succ m => exact fstIx_no m (by omega)
theorem nd_at {ns : List Str} (nd : ns.Nodup) {i j : Nat} {z : Str} (hi : ns[i]? = some z) (hj : ns[j]? = some z) : i = j := by
  obtain ⟨li, ei⟩ := List.getElem?_eq_some_iff.mp hi
  obtain ⟨lj, ej⟩ := List.getElem?_eq_some_iff.mp hj
  have h := List.pairwise_iff_getElem.mp nd
  rcases Nat.lt_trichotomy i j with q | q | q
  · exact absurd (ei.trans ej.symm) (h i j li lj q)
  · exact q
  · exact absurd (ej.trans ei.symm) (h j i lj li q)
theorem fstIx_nd {z : Str} {ns : List Str} (nd : ns.Nodup) {i : Nat} (h : ns[i]? = some z) : fstIx z ns = i := by
  have m := List.mem_of_getElem? h
  have a := fstIx_at m
  rcases Nat.lt_trichotomy (fstIx z ns) i with q | q | q
  · exact nd_at nd a h
  · exact q
  · exact absurd h (fstIx_no _ q)
def spSdInit (K : PySem.W.Frag) (Cp C CS : Addr) : Sp := fun vs H Q _ => ∃ (x dx p dv : Addr) (rs : List Pr) (nm : Str) (ps : List Str) (val : Str → Int), vs = [.ref x, .ref p, .str nm, .ref dv] ∧ H x = some (.ins CS dx []) ∧ Prg K Cp H p rs ∧ nm ∈ rs.map Pr.name ∧ NumD H dv ps val ∧ (∀ d ∈ readsOf rs, d ∈ ps) ∧
  ∀ H' st, SideA K Cp C CS H' x p rs nm st dv ps val → But x H H' → Q .non H'
abbrev sSideInit : Stmt := inClass (top 42) 0
theorem scSideInit : FnScope ["self", "program", "name", "numbers", "callee"] ["self", "program", "name", "numbers"] (defScope sSideInit) := ⟨rfl, rfl, rfl, by decide +kernel, rfl, by decide +kernel, by decide +kernel⟩
theorem ok_sdInit {f aS : Addr} {fd : FuncData} (F : Fun K "__init__" "Side.__init__" sSideInit f fd) (T : SdC K mg CS) (TP : PgC K mg Cp) (d_breaks : CalD P w K mg base CX0 5 "breaks" ["program", "name", "spared"] (spBreaks K Cp C) [.ref aS]) (eS : ∀ H, ArgS K C H (.ref aS) []) :
    FnOk P w K mg base CX0 6 f fd ["self", "program", "name", "numbers"] (spSdInit K Cp C CS) := by
  refine F.ok scSideInit (fun vs H Q E h => ?_) (fun cdv A outer s H vs Q E hr h => ?_)
  · obtain ⟨x, dx, p, dv, rs, nm, ps, val, rfl, _⟩ := h
    rfl
  · obtain ⟨x, dx, p, dv, rs, nm, ps, val, rfl, hx, hP, hnm, hV, sub, k⟩ := h
    refine ⟨_, (pss_cons (ps_fld (pv 0) (pv 1) rfl)
      (pss_cons (ps_fld (pv 0) (pv 2) rfl)
      (pss_cons (ps_fld (pv 0) (pv 3) rfl)
      (pss_cons (ps_fld (pv 0) (pe_bmT PySem.F.plainAttrs_tuple PySem.F.slot_tuple_index PySem.F.type_tuple_index mt_tup_index (fldK K (pv 1)) (pa_cons (pv 2) pa_nil)) rfl)
      (pss_one (ps_fld (pv 0) (pe_dc (own := [("callee", 4)]) (g := (gName 4)) (tt := tYes) rfl scSideInit.nd (pi_tup (fldK K (pv 1))) (blkOk_by (own := [("callee", 4)]) (N := ["self", "program", "name", "numbers", "callee"]) (sc := defScope sSideInit) (by decide +kernel)) (fun _ _ _ _ _ => (pg_name (i := 4) scSideInit.nd rfl (by first | exact Or.inl rfl | exact Or.inr rfl))) (fun _ _ _ _ _ => pts_nil) (fun _ _ _ _ _ => (pv 4)) (fun _ _ _ _ _ => (pe_cald d_breaks hr pass0 (pa_cons (pv 1) (pa_cons (pv 4) pa_nil))))) rfl)))))), ?_⟩
    obtain ⟨st, hst⟩ := List.mem_iff_getElem?.mp hnm
    obtain ⟨dxp, d, n, q, us, pl, xA, R, up, m⟩ := id hP
    -- the four fields
    refine ⟨_, rfl, _, rfl, x, CS, dx, [], rfl, hx, T.ins.cl, T.nP, (by show 0 < 1000; decide), ?_⟩
    generalize h1 : upd H x (.ins CS dx (putF "program" (.ref p) [])) = H1
    have u1 : H1 x = some (.ins CS dx (flS1 p)) := by rw [← h1]; exact upd_same
    have B1 : But x H H1 := by rw [← h1]; exact .upd
    refine ⟨_, rfl, _, rfl, x, CS, dx, _, rfl, u1, T.ins.cl, T.nN, (by show 1 < 1000; decide), ?_⟩
    generalize h2 : upd H1 x (.ins CS dx (putF "name" (.str nm) (flS1 p))) = H2
    have u2 : H2 x = some (.ins CS dx (flS2 p nm)) := by rw [← h2]; exact upd_same
    have B2 : But x H H2 := by rw [← h2]; exact B1.trans .upd
    refine ⟨_, rfl, _, rfl, x, CS, dx, _, rfl, u2, T.ins.cl, T.nV, (by show 2 < 1000; decide), ?_⟩
    generalize h3 : upd H2 x (.ins CS dx (putF "numbers" (.ref dv) (flS2 p nm))) = H3
    have u3 : H3 x = some (.ins CS dx (flS3 p nm dv)) := by rw [← h3]; exact upd_same
    have B3 : But x H H3 := by rw [← h3]; exact B2.trans .upd
    have x3 := xA.but B3 hx (ins_ne "_bodies" xA.o hx (by rw [flP_b]; intro z; cases z))
    refine ⟨_, rfl, p, Cp, dxp, _, _, rfl, x3.o, TP.ins.cl, TP.nN, flP_n d n q, ⟨n, _, rfl, x3.n⟩, _, rfl, n, _, nm, fstIx nm (rs.map Pr.name), rfl, rfl, x3.n.sq, fstIx_at hnm, fstIx_no, ?_⟩
    refine ⟨_, rfl, x, CS, dx, _, rfl, u3, T.ins.cl, T.nS, (by show 3 < 1000; decide), ?_⟩
    generalize h4 : upd H3 x (.ins CS dx (putF "start" (.int (fstIx nm (rs.map Pr.name) : Nat)) (flS3 p nm dv))) = H4
    have u4 : H4 x = some (.ins CS dx (flS4 p nm dv (fstIx nm (rs.map Pr.name)))) := by rw [← h4]; exact upd_same
    have B4 : But x H H4 := by rw [← h4]; exact B3.trans .upd
    have hP4 := hP.but B4 hx rfl
    have x4 := xA.but B4 hx (ins_ne "_bodies" xA.o hx (by rw [flP_b]; intro z; cases z))
    refine ⟨_, rfl, p, Cp, dxp, _, _, rfl, x4.o, TP.ins.cl, TP.nN, flP_n d n q, n, rfl, ⟨_, x4.n.sq⟩, fun D hD => ?_⟩
    have nsl : (rs.map Pr.name).length ≤ 16 := by rw [List.length_map]; exact R.few
    refine it_any walk_tup (fun i H' => Same H4 H' ∧ ∃ kvs : List (Key × V), H' D = some (.dK kvs) ∧ kvs.length ≤ i ∧ ∀ z ∈ (rs.map Pr.name).take i, ∃ q ms, valV kvs (Sum.inr z) = some (.ref q) ∧ NSet C H' q ms ∧ ∀ d, d ∈ ms ↔ BrkOf rs z d)
      ⟨Same.new hD, [], upd_same, Nat.zero_le _, (by simp)⟩ (fun i H' _ q => (x4.n.same q.1).sq) ?_ ?_
    · rintro i y _ H5 hi ⟨s5, kvs, hD5, l5, v5⟩ ⟨rfl, hx'⟩
      rw [List.getElem?_map] at hx'
      obtain ⟨z, hz, rfl⟩ := Option.map_eq_some_iff.mp hx'
      rw [List.length_map] at hi
      have zm := List.mem_of_getElem? hz
      refine ⟨rfl, yes_then ?_⟩
      refine ⟨_, rfl, _, rfl, _, rfl, p, rs, z, .ref aS, [], rfl, hP4.same s5, zm, eS _, (by decide), (by simp), fun q ms H6 N6 m6 s6 => ⟨kvs, Sum.inr z, rfl, s6 _ _ hD5, Nat.lt_of_lt_of_le (by omega : kvs.length < 17) (by decide), ?_⟩⟩
      have sT : SameT H6 (upd H6 D (.dK (putK kvs (Sum.inr z) (.ref q)))) := SameT.putD .refl (s6 _ _ hD5)
      refine ⟨(s5.trans s6).mut hD, _, upd_same, Nat.le_trans (putK_le _ _ _) (by omega), fun z2 hz2 => ?_⟩
      by_cases e : z2 = z
      · subst e
        exact ⟨q, ms, by rw [valV_put, if_pos rfl], N6.sameT sT, m6⟩
      · have z2m : z2 ∈ (rs.map Pr.name).take i := by
          rw [List.take_add_one, hz] at hz2
          rcases List.mem_append.mp hz2 with h | h
          · exact h
          · exact absurd (List.mem_singleton.mp h) e
        obtain ⟨q2, ms2, a, b, c⟩ := v5 z2 z2m
        exact ⟨q2, ms2, by rw [valV_put, if_neg (fun h => e (Sum.inr.inj h))]; exact a, (b.same s6).sameT sT, c⟩
    · rintro H5 ⟨s5, kvs, hD5, l5, v5⟩
      rw [List.length_map] at l5 v5
      rw [List.take_length] at v5
      have u5 := s5 _ _ u4
      refine ⟨_, rfl, x, CS, dx, _, rfl, u5, T.ins.cl, T.nW, (by show 4 < 1000; decide), ?_⟩
      have B5 : But x H5 (upd H5 x (.ins CS dx (putF "weak_points" (.ref D) (flS4 p nm dv (fstIx nm (rs.map Pr.name)))))) := .upd
      refine k _ (fstIx nm (rs.map Pr.name)) ⟨⟨dx, D, upd_same, kvs, B5 _ _ (ne_of hD5 u5 (by intro z; cases z)) hD5, l5, fun z hz => ?_⟩, (hP4.same s5).but B5 u5 flS4_b, ((hV.but B4 hx).same s5).but B5 u5, fstIx_at hnm, sub⟩ ((B4.trans (.of s5)).trans B5)
      obtain ⟨q, ms, a, b, c⟩ := v5 z hz
      exact ⟨q, ms, a, b.but B5 u5 flS4_m, c⟩
/-! ### fails, world_rows -/
def spSdFails (K : PySem.W.Frag) (Cp C CS : Addr) : Sp := fun vs H Q _ => ∃ (x p b dv : Addr) (rs : List Pr) (nm z : Str) (st : Nat) (ps br : List Str) (val : Str → Int), vs = [.ref x, .str z, .ref b] ∧ SideA K Cp C CS H x p rs nm st dv ps val ∧ z ∈ rs.map Pr.name ∧ SqT K H b (br.map V.str) ∧ br.length ≤ 1 ∧
  ∀ H', Same H H' → Q (.bl (fls rs z br)) H'
abbrev sSideFails : Stmt := inClass (top 42) 1
theorem scSideFails : FnScope ["self", "name", "broken", "place"] ["self", "name", "broken"] (defScope sSideFails) := ⟨rfl, rfl, rfl, by decide +kernel, rfl, by decide +kernel, by decide +kernel⟩
theorem ok_sdFails {f : Addr} {fd : FuncData} (F : Fun K "fails" "Side.fails" sSideFails f fd) (T : SdC K mg CS) (mAny : mg "any" = none) (ON : NsO P w K mg base C) : FnOk P w K mg base CX0 2 f fd ["self", "name", "broken"] (spSdFails K Cp C CS) := by
  refine F.ok scSideFails (fun vs H Q E h => ?_) (fun cdv A outer s H vs Q E hr h => ?_)
  · obtain ⟨x, p, b, dv, rs, nm, z, st, ps, br, val, rfl, _⟩ := h
    rfl
  · obtain ⟨x, p, b, dv, rs, nm, z, st, ps, br, val, rfl, S, hz, hb, lb, k⟩ := h
    have hu : (A.deeper (PyProof.Rows.envOfC "Side.fails" (defScope sSideFails) s.heap.objs.size f cdv)).units + 1 < cLine := by have := hr.units; omega
    refine ⟨_, (pss_one (ps_ret (pe_callB (k_any K) (by rfl) mAny (by decide +kernel) (pa_cons (pe_lc (own := [("place", 3)]) (g := (gName 3)) (tt := tYes) rfl scSideFails.nd (pi_tup (pv 2)) (blkOk_by (own := [("place", 3)]) (N := ["self", "name", "broken", "place"]) (sc := defScope sSideFails) (by decide +kernel)) (fun _ _ _ _ _ => (pg_name (i := 3) scSideFails.nd rfl (by first | exact Or.inl rfl | exact Or.inr rfl))) (fun _ _ _ _ _ => pts_nil) (fun _ _ _ _ _ => (pe_cmpR (om_in ON.has hr pass0) (pv 3) (pe_dget hu (fldK K (pv 0)) (pv 1) (fun _ _ => rfl)) (by rfl)))) pa_nil)))), ?_⟩
    refine ⟨_, rfl, b, rfl, ⟨_, hb⟩, fun D hD => ?_⟩
    refine lc_it walk_tup (fun i H' => Same H H' ∧ H' D = some (.lst ((br.take i).map fun d => V.bl (brkB rs z d)))) ⟨Same.new hD, upd_same⟩ (fun i H' _ q => q.1.tup hb) ?_ ?_
    · rintro i y _ H1 hi ⟨s1, h3⟩ ⟨rfl, hx⟩
      rw [List.getElem?_map] at hx
      obtain ⟨e, he, rfl⟩ := Option.map_eq_some_iff.mp hx
      rw [List.length_map] at hi
      obtain ⟨dx, wk, io, kvs, hw, lw, vw⟩ := (S.same s1).o
      obtain ⟨q, ms, hv, N, m⟩ := vw z hz
      obtain ⟨dq, fq, iq⟩ := N.ins
      refine ⟨rfl, yes_then ?_⟩
      refine ⟨_, rfl, _, rfl, x, CS, dx, _, _, rfl, io, T.ins.cl, T.nW, flS_w, _, rfl, wk, .ref q, rfl, hv ▸ DGet.k (k := Sum.inr z) hw, ?_⟩
      refine ⟨q, dq, _, rfl, iq, q, ms, e, rfl, N, ?_⟩
      rw [brkB_ms (m e)]
      refine ⟨_, rfl, _, h3, ?_, s1.mut hD, ?_⟩
      · rw [List.length_map]
        exact Nat.lt_of_le_of_lt (List.length_take_le _ _) (Nat.lt_of_lt_of_le (by omega : i < 2) (by decide))
      · rw [upd_same, List.take_add_one, he, List.map_append]
        rfl
    · rintro H1 ⟨s1, h3⟩
      have e : ((br.take (br.map V.str).length).map fun d => V.bl (brkB rs z d)) = (br.map fun d => brkB rs z d).map V.bl := by rw [List.length_map, List.take_length, List.map_map]; rfl
      rw [e] at h3
      refine ⟨D, _, rfl, .of h3, ?_⟩
      rw [List.any_map]
      exact k H1 s1
/-- what a node is -/
noncomputable def nodOf (rs : List Pr) (br : List Str) (z : Str) : Itm := if fls rs z br = true then .gap else .nd (fstIx z (rs.map Pr.name))
/-- the rows of a world -/
noncomputable def wRows (rs : List Pr) (val : Str → Int) (br : List Str) : List (List Itm) := rs.map fun r => r.ss.map (itemOf val (nodOf rs br))
def spSdRows (K : PySem.W.Frag) (Cp C CS : Addr) : Sp := fun vs H Q _ => ∃ (x p b dv : Addr) (rs : List Pr) (nm : Str) (st : Nat) (ps br : List Str) (val : Str → Int), vs = [.ref x, .ref b] ∧ SideA K Cp C CS H x p rs nm st dv ps val ∧ SqT K H b (br.map V.str) ∧ br.length ≤ 1 ∧
  ∀ a H', H a = none → RowsA K H' a (wRows rs val br) → Same H H' → Q (.ref a) H'
theorem NumD.sub {H : Hp} {d : Addr} {ps qs : List Str} {val : Str → Int} (x : NumD H d ps val) (h : ∀ z ∈ qs, z ∈ ps) : NumD H d qs val := let ⟨k, a, q⟩ := x; ⟨k, a, fun z hz => q z (h z hz)⟩
abbrev sSideWorld_rows : Stmt := inClass (top 42) 2
theorem scSideWorld_rows : FnScope ["self", "broken", "nodes", "at", "name"] ["self", "broken"] (defScope sSideWorld_rows) := ⟨rfl, rfl, rfl, by decide +kernel, rfl, by decide +kernel, by decide +kernel⟩
theorem ok_sdRows {f aG : Addr} {fd : FuncData} (F : Fun K "world_rows" "Side.world_rows" sSideWorld_rows f fd) (T : SdC K mg CS) (TP : PgC K mg Cp) (mEnum : mg "enumerate" = none) (c_fails : CalM P w K mg base CX0 2 CS "fails" ["self", "name", "broken"] (spSdFails K Cp C CS))
    (mg_GAP : mg "GAP" = some (.ref aG)) (qG : ∀ H, SqT K H aG [.str "gap"]) (c_rows_of_all : Cal P w K mg base CX0 3 "rows_of_all" ["program", "values", "nodes"] (spRowsAll K Cp)) : FnOk P w K mg base CX0 4 f fd ["self", "broken"] (spSdRows K Cp C CS) := by
  refine F.ok scSideWorld_rows (fun vs H Q E h => ?_) (fun cdv A outer s H vs Q E hr h => ?_)
  · obtain ⟨x, p, b, dv, rs, nm, st, ps, br, val, rfl, _⟩ := h
    rfl
  · obtain ⟨x, p, b, dv, rs, nm, st, ps, br, val, rfl, S, hb, lb, k⟩ := h
    have hr2 : Room 2 _ := hr.mono (by decide : 2 ≤ 3)
    have hr_rows_of_all := hr
    refine ⟨_, (pss_cons (ps_setDc (i := 2) (own := [("at", 3), ("name", 4)]) (g := (gTup K 2 (gCons (gName 3) (gCons (gName 4) gNil)))) (tt := tYes) rfl scSideWorld_rows.nd rfl rfl (sw_trueD rfl rfl rfl (by decide +kernel)) (pi_enumA (by rfl) mEnum (pa_cons (fldK K (fldK K (pv 0))) pa_nil)) (blkOk_by (own := [("at", 3), ("name", 4)]) (N := ["self", "broken", "nodes", "at", "name"]) (sc := defScope sSideWorld_rows) (by decide +kernel)) (fun _ _ _ _ _ => (pg_tup rfl (pgs_cons (pg_name (i := 3) scSideWorld_rows.nd rfl (by first | exact Or.inl rfl | exact Or.inr rfl)) (pgs_cons (pg_name (i := 4) scSideWorld_rows.nd rfl (by first | exact Or.inl rfl | exact Or.inr rfl)) pgs_nil)))) (fun _ _ _ _ _ => pts_nil) (fun _ _ _ _ _ => (pv 4)) (fun _ _ _ _ _ => (pe_ifExp (pt_val (om_meth (pv 0) T.ins.cl c_fails hr2 pass0 (pa_cons (pv 4) (pa_cons (pv 1) pa_nil)))) (pe_glob (v := .ref _) rfl mg_GAP rfl) (pe_tup (pa_cons pe_str (pa_cons (pv 3) pa_nil))))))
      (pss_one (ps_ret (pe_cal c_rows_of_all hr_rows_of_all pass0 (pa_cons (fldK K (pv 0)) (pa_cons (fldK K (pv 0)) (pa_cons (pv 2) pa_nil))))))), ?_⟩
    obtain ⟨dx, wk, io, W⟩ := S.o
    obtain ⟨dxp, d, n, q, us, pl, xA, R, up, m⟩ := id S.prg
    have few := R.few
    refine ⟨_, rfl, x, CS, dx, _, _, rfl, io, T.ins.cl, T.nP, flS_p, p, Cp, dxp, _, _, rfl, xA.o, TP.ins.cl, TP.nN, flP_n d n q, n, _, rfl, .inr ⟨xA.n.sq, fun D hD => ?_⟩⟩
    refine it_any walk_enumST (fun i H' => Same H H' ∧ ∃ kvs : List (Key × V), H' D = some (.dK kvs) ∧ kvs.length ≤ i ∧ ∀ z ∈ (rs.map Pr.name).take i, ∃ t, valV kvs (Sum.inr z) = some (.ref t) ∧ ItA K H' t (nodOf rs br z))
      ⟨Same.new hD, [], upd_same, Nat.zero_le _, (by simp)⟩ (fun i H' _ q => (xA.n.same q.1).sq) ?_ ?_
    · rintro i y H1 H2 hi ⟨s1, kvs, hD1, l1, v1⟩ ⟨t0, x0, y0, rfl, hT, rfl, e1, e2⟩
      obtain rfl : x0 = .int (0 + (i : Nat)) := (Option.some.inj e1).symm
      have e2 : ((rs.map Pr.name).map V.str)[i]? = some y0 := e2
      rw [List.getElem?_map] at e2
      obtain ⟨z, hz, rfl⟩ := Option.map_eq_some_iff.mp e2
      rw [Int.zero_add]
      rw [List.length_map, List.length_map] at hi
      have zm := List.mem_of_getElem? hz
      have s2 := s1.trans (Same.new (o := .tup [.int (i : Nat), .str z]) hT)
      have hD2 := (Same.new (o := .tup [.int (i : Nat), .str z]) hT) _ _ hD1
      have v2 : ∀ z2 ∈ (rs.map Pr.name).take i, ∃ t, valV kvs (Sum.inr z2) = some (.ref t) ∧ ItA K (upd H1 t0 (.tup [.int (i : Nat), .str z])) t (nodOf rs br z2) := fun z2 hz2 => let ⟨t, a, b⟩ := v1 z2 hz2; ⟨t, a, b.same (Same.new hT)⟩
      have h0 : (upd H1 t0 (.tup [.int (i : Nat), .str z])) t0 = some (.tup [.int (i : Nat), .str z]) := upd_same
      generalize upd H1 t0 (.tup [.int (i : Nat), .str z]) = H3 at s2 hD2 v2 h0
      refine ⟨t0, _, rfl, .of h0, rfl, _, _, rfl, _, _, rfl, rfl, rfl, yes_then ?_⟩
      have S3 := S.same s2
      obtain ⟨dx3, wk3, io3, W3⟩ := S3.o
      have fin : ∀ t H4, ItA K H4 t (nodOf rs br z) → Same H3 H4 → ∃ kvs' k, V.str z = kV k ∧ H4 D = some (.dK kvs') ∧ kvs'.length < sizeLine ∧ (Same H (upd H4 D (.dK (putK kvs' k (.ref t)))) ∧ ∃ kvs : List (Key × V), (upd H4 D (.dK (putK kvs' k (.ref t)))) D = some (.dK kvs) ∧ kvs.length ≤ i + 1 ∧
          ∀ z ∈ (rs.map Pr.name).take (i + 1), ∃ t', valV kvs (Sum.inr z) = some (.ref t') ∧ ItA K (upd H4 D (.dK (putK kvs' k (.ref t)))) t' (nodOf rs br z)) := fun t H4 it s4 => by
        have hD4 := s4 _ _ hD2
        have sT : SameT H4 (upd H4 D (.dK (putK kvs (Sum.inr z) (.ref t)))) := SameT.putD .refl hD4
        refine ⟨kvs, Sum.inr z, rfl, hD4, Nat.lt_of_lt_of_le (by omega : kvs.length < 17) (by decide), (s2.trans s4).mut hD, _, upd_same, Nat.le_trans (putK_le _ _ _) (by omega), fun z2 hz2 => ?_⟩
        by_cases e : z2 = z
        · subst e
          exact ⟨t, by rw [valV_put, if_pos rfl], sT.tup it⟩
        · have z2m : z2 ∈ (rs.map Pr.name).take i := by
            rw [List.take_add_one, hz] at hz2
            rcases List.mem_append.mp hz2 with h | h
            · exact h
            · exact absurd (List.mem_singleton.mp h) e
          obtain ⟨t2, a, b⟩ := v2 z2 z2m
          exact ⟨t2, by rw [valV_put, if_neg (fun h => e (Sum.inr.inj h))]; exact a, sT.tup (b.same s4)⟩
      refine ⟨_, rfl, _, rfl, x, dx3, _, rfl, io3, flS_f, _, rfl, _, rfl, x, p, b, dv, rs, nm, z, st, ps, br, val, rfl, S3, zm, s2.tup hb, lb, fun H4 s4 => ⟨_, rfl, ?_⟩⟩
      by_cases ef : fls rs z br = true
      · rw [ef]
        refine iteT (fin aG H4 ?_ s4)
        unfold nodOf
        rw [if_pos ef]
        exact qG H4
      · rw [Bool.not_eq_true] at ef
        rw [ef]
        refine iteF ⟨_, rfl, (by show 2 ≤ sizeLine; decide), fun t ht => fin t _ ?_ (s4.trans (Same.new ht))⟩
        unfold nodOf
        rw [ef, fstIx_nd R.nd hz]
        exact .of upd_same
    · rintro H1 ⟨s1, kvs, hD1, l1, v1⟩
      rw [List.length_map, List.take_length] at v1
      have S1 := S.same s1
      obtain ⟨dx3, wk3, io3, W3⟩ := S1.o
      refine ⟨_, rfl, x, CS, dx3, _, _, rfl, io3, T.ins.cl, T.nP, flS_p, _, rfl, x, CS, dx3, _, _, rfl, io3, T.ins.cl, T.nV, flS_v, _, rfl, ?_⟩
      refine ⟨p, dv, D, rs, val, nodOf rs br, rfl, S1.prg, S1.nv.sub S1.sub, ⟨kvs, hD1, v1⟩, fun a H2 ha ra s2 => ?_⟩
      exact k a H2 (s1.free ha) ra (s1.trans s2)
end
end Mf
namespace Mf
open PySem L2
inductive ItM (M : Nat → Nat → Prop) : Itm → Itm → Prop
  | num (n : Int) : ItM M (.num n) (.num n)
  | wd (w : Str) : ItM M (.wd w) (.wd w)
  | gap : ItM M .gap .gap
  | nd {i j : Nat} (h : M i j) : ItM M (.nd i) (.nd j)
/-- the rows of the pairs of M match -/
structure Sim (M : Nat → Nat → Prop) (R1 R2 : List (List Itm)) : Prop where
  row : ∀ i j, M i j → ∃ r1 r2, R1[i]? = some r1 ∧ R2[j]? = some r2 ∧ Paired (ItM M) r1 r2
theorem scan_sim {M : Nat → Nat → Prop} {r1 r2 : List Itm} (p : Paired (ItM M) r1 r2) {z : List Int} : ∀ (n x : Nat) (qs : Qs), x + n = r1.length → (∀ q ∈ qs, M q.1.1 q.1.2) → ∃ qs', scan r1 r2 z n x qs = .inl qs' ∧ ∀ q ∈ qs', M q.1.1 q.1.2
  | 0, x, qs, _, h => ⟨qs, rfl, h⟩
  | n + 1, x, qs, l, h => by
    have hx := List.getElem?_eq_getElem (show x < r1.length by omega)
    generalize r1[x] = a at hx
    obtain ⟨b, hb, r⟩ := L2.paired_get p hx
    rw [scan_succ, hx, hb]
    cases r with
    | num m =>
      have e : visit (some (.num m)) (some (.num m)) z x qs = .inl qs := by unfold visit; exact if_pos rfl
      rw [e]; exact scan_sim p n (x + 1) qs (by omega) h
    | wd w =>
      have e : visit (some (.wd w)) (some (.wd w)) z x qs = .inl qs := by unfold visit; exact if_pos rfl
      rw [e]; exact scan_sim p n (x + 1) qs (by omega) h
    | gap =>
      have e : visit (some .gap) (some .gap) z x qs = .inl qs := by unfold visit; exact if_pos rfl
      rw [e]; exact scan_sim p n (x + 1) qs (by omega) h
    | @nd i j hM =>
      have e : visit (some (.nd i)) (some (.nd j)) z x qs = .inl (if (i, j) ∈ qs.map (·.1) then qs else qs ++ [((i, j), z ++ [(x : Int)])]) := rfl
      rw [e]
      refine scan_sim p n (x + 1) _ (by omega) fun q hq => ?_
      by_cases c : (i, j) ∈ qs.map (·.1)
      · rw [if_pos c] at hq; exact h q hq
      · rw [if_neg c] at hq
        rcases List.mem_append.mp hq with hq | hq
        · exact h q hq
        · rw [List.mem_singleton.mp hq]; exact hM
theorem bfs_sim {M : Nat → Nat → Prop} {R1 R2 : List (List Itm)} (S : Sim M R1 R2) : ∀ (n at_ : Nat) (qs : Qs), (∀ q ∈ qs, M q.1.1 q.1.2) → bfs R1 R2 n at_ qs = none
  | 0, _, _, _ => rfl
  | n + 1, at_, qs, h => by
    unfold bfs
    cases e : qs[at_]? with
    | none => rfl
    | some pz =>
      obtain ⟨p, z⟩ := pz
      obtain ⟨r1, r2, h1, h2, pr⟩ := S.row _ _ (h _ (List.mem_of_getElem? e))
      have g1 : R1.getD p.1 [] = r1 := by rw [List.getD_eq_getElem?_getD, h1]; rfl
      have g2 : R2.getD p.2 [] = r2 := by rw [List.getD_eq_getElem?_getD, h2]; rfl
      have l := Paired.length pr
      obtain ⟨qs', e1, h'⟩ := scan_sim pr (z := z) r1.length 0 qs (by omega) h
      simp only [g1, g2]
      rw [← l, Nat.max_self, e1]
      exact bfs_sim S n (at_ + 1) qs' h'
theorem difP_sim {M : Nat → Nat → Prop} {R1 R2 : List (List Itm)} (S : Sim M R1 R2) {i j : Nat} (h : M i j) : difP R1 R2 i j = none :=
  bfs_sim S _ _ _ fun q hq => by rw [List.mem_singleton.mp hq]; exact h
/-! ### procedures that do the same -/
def StM (ρ : Str → Str → Prop) (s t : Step) : Prop := s.1 = t.1 ∧ ((s.1 = ("read" : Str) ∨ s.1 = ("say" : Str)) → s.2 = t.2) ∧ (s.1 ≠ ("read" : Str) → s.1 ≠ ("say" : Str) → ρ s.2 t.2)
def Bis (ρ : Str → Str → Prop) (rs1 rs2 : List Pr) : Prop := ∀ x y, ρ x y → ∃ ss1 ss2, (x, ss1) ∈ pls rs1 ∧ (y, ss2) ∈ pls rs2 ∧ Paired (StM ρ) ss1 ss2
theorem paired_flip {α β : Type} {R : α → β → Prop} {xs : List α} {ys : List β} (r : Paired R xs ys) {S : β → α → Prop} (h : ∀ a b, R a b → S b a) : Paired S ys xs := by
  induction r with
  | nil => exact .nil
  | cons a _ ih => exact .cons (h _ _ a) ih
theorem StM.flip {ρ : Str → Str → Prop} {s t : Step} (h : StM ρ s t) : StM (fun y x => ρ x y) t s :=
  ⟨h.1.symm, fun e => (h.2.1 (by rw [h.1]; exact e)).symm, fun e1 e2 => h.2.2 (by rw [h.1]; exact e1) (by rw [h.1]; exact e2)⟩
theorem Bis.flip {ρ : Str → Str → Prop} {rs1 rs2 : List Pr} (B : Bis ρ rs1 rs2) : Bis (fun y x => ρ x y) rs2 rs1 := fun y x h =>
  let ⟨ss1, ss2, a, b, p⟩ := B x y h
  ⟨ss2, ss1, b, a, paired_flip p fun _ _ q => q.flip⟩
theorem reads_stm {ρ : Str → Str → Prop} {ss tt : List Step} (p : Paired (StM ρ) ss tt) : readsIn ss = readsIn tt := by
  induction p with
  | nil => rfl
  | @cons s t ss tt a _ ih =>
    unfold readsIn at ih ⊢
    by_cases e : s.1 = ("read" : Str)
    · have e2 : t.1 = ("read" : Str) := by rw [← a.1]; exact e
      rw [List.filter_cons_of_pos (p := fun s : Step => decide (s.1 = ("read" : Str))) (decide_eq_true e), List.filter_cons_of_pos (p := fun s : Step => decide (s.1 = ("read" : Str))) (decide_eq_true e2), List.map_cons, List.map_cons, ih, a.2.1 (.inl e)]
    · have e2 : ¬ t.1 = ("read" : Str) := by rw [← a.1]; exact e
      rw [List.filter_cons_of_neg (p := fun s : Step => decide (s.1 = ("read" : Str))) (by rw [decide_eq_false e]; decide), List.filter_cons_of_neg (p := fun s : Step => decide (s.1 = ("read" : Str))) (by rw [decide_eq_false e2]; decide), ih]
theorem paired_mem2 {α β : Type} {R : α → β → Prop} {xs : List α} {ys : List β} (r : Paired R xs ys) {x : α} (h : x ∈ xs) : ∃ y ∈ ys, R x y := by
  induction r with
  | nil => cases h
  | cons a _ ih =>
    rcases List.mem_cons.mp h with rfl | h
    · exact ⟨_, List.mem_cons_self, a⟩
    · obtain ⟨y, hy, r⟩ := ih h
      exact ⟨y, List.mem_cons_of_mem _ hy, r⟩
theorem bis_reach {ρ : Str → Str → Prop} {rs1 rs2 : List Pr} (R1 : RightP rs1) (B : Bis ρ rs1 rs2) {x y : Str} (h : ρ x y) {z : Str} (r : Rch (Suc (pls rs1) requiring) (· ∈ ([] : List Str)) (· ∈ [x]) z) :
    ∃ z', ρ z z' ∧ Rch (Suc (pls rs2) requiring) (· ∈ ([] : List Str)) (· ∈ [y]) z' := by
  induction r with
  | base e n => rw [List.mem_singleton.mp e]; exact ⟨y, h, .base (List.mem_singleton.mpr rfl) (by simp)⟩
  | @step u z _ s n ih =>
    obtain ⟨u', hu, ru⟩ := ih
    obtain ⟨ss, hss, s, hs, k, rfl⟩ := s
    obtain ⟨ss1, ss2, a, b, p⟩ := B u u' hu
    have e := pc_one (x := pls rs1) (by rw [pls_names]; exact R1.nd) a hss
    rw [e] at hs
    obtain ⟨t, ht, st⟩ := paired_mem2 p hs
    have k1 : s.1 = ("call" : Str) := List.mem_singleton.mp k
    have r1 := st.2.2 (by rw [k1]; decide) (by rw [k1]; decide)
    exact ⟨t.2, r1, .step ru ⟨ss2, b, t, ht, by rw [← st.1]; exact k, rfl⟩ (by simp)⟩
theorem bis_brk1 {ρ : Str → Str → Prop} {rs1 rs2 : List Pr} (R1 : RightP rs1) (B : Bis ρ rs1 rs2) {x y d : Str} (h : ρ x y) (b : BrkOf rs1 x d) : BrkOf rs2 y d := by
  obtain ⟨z, r, ss, hz, hd⟩ := b
  obtain ⟨z', hz', r'⟩ := bis_reach R1 B h r
  obtain ⟨ss1, ss2, a, b, p⟩ := B z z' hz'
  have e := pc_one (x := pls rs1) (by rw [pls_names]; exact R1.nd) a hz
  exact ⟨z', r', ss2, b, by rw [← reads_stm p, ← e]; exact hd⟩
theorem bis_fls {ρ : Str → Str → Prop} {rs1 rs2 : List Pr} (R1 : RightP rs1) (R2 : RightP rs2) (B : Bis ρ rs1 rs2) {x y : Str} (h : ρ x y) (br : List Str) : fls rs1 x br = fls rs2 y br := by
  unfold fls
  have e : brkB rs1 x = brkB rs2 y := funext fun d => by
    unfold brkB
    by_cases q : BrkOf rs1 x d
    · rw [@decide_eq_true _ (Classical.propDecidable _) q, @decide_eq_true _ (Classical.propDecidable _) (bis_brk1 R1 B h q)]
    · rw [@decide_eq_false _ (Classical.propDecidable _) q, @decide_eq_false _ (Classical.propDecidable _) (fun q2 => q (bis_brk1 R2 B.flip h q2))]
  rw [e]
theorem pls_in {rs : List Pr} {x : Str} {ss : List Step} (h : (x, ss) ∈ pls rs) : x ∈ rs.map Pr.name := by
  rw [← pls_names]; exact List.mem_map.mpr ⟨_, h, rfl⟩
theorem paired_map2 {α β γ δ : Type} {R : α → β → Prop} {S : γ → δ → Prop} {f : α → γ} {g : β → δ} {xs : List α} {ys : List β} (r : Paired R xs ys) (h : ∀ a b, R a b → S (f a) (g b)) : Paired S (xs.map f) (ys.map g) := by
  induction r with
  | nil => exact .nil
  | cons a _ ih => exact .cons (h _ _ a) ih
/-- the rows that match -/
def MOf (ρ : Str → Str → Prop) (rs1 rs2 : List Pr) (i j : Nat) : Prop := ∃ x y, (rs1.map Pr.name)[i]? = some x ∧ (rs2.map Pr.name)[j]? = some y ∧ ρ x y
theorem row_at {rs : List Pr} (R : RightP rs) {i : Nat} {x : Str} {ss : List Step} (h : (rs.map Pr.name)[i]? = some x) (m : (x, ss) ∈ pls rs) : ∃ r, rs[i]? = some r ∧ r.ss = ss := by
  rw [List.getElem?_map] at h
  obtain ⟨r, hr, rfl⟩ := Option.map_eq_some_iff.mp h
  exact ⟨r, hr, pc_one (x := pls rs) (by rw [pls_names]; exact R.nd) m (pls_mem (List.mem_of_getElem? hr))⟩
theorem bis_sim {ρ : Str → Str → Prop} {rs1 rs2 : List Pr} (R1 : RightP rs1) (R2 : RightP rs2) (B : Bis ρ rs1 rs2) (val : Str → Int) (br : List Str) : Sim (MOf ρ rs1 rs2) (wRows rs1 val br) (wRows rs2 val br) where
  row := fun i j ⟨x, y, hx, hy, h⟩ => by
    obtain ⟨ss1, ss2, a, b, p⟩ := B x y h
    obtain ⟨r1, hr1, e1⟩ := row_at R1 hx a
    obtain ⟨r2, hr2, e2⟩ := row_at R2 hy b
    refine ⟨_, _, by unfold wRows; rw [List.getElem?_map, hr1]; rfl, by unfold wRows; rw [List.getElem?_map, hr2]; rfl, ?_⟩
    show Paired _ (r1.ss.map _) (r2.ss.map _)
    rw [e1, e2]
    refine paired_map2 p fun s t st => ?_
    unfold itemOf
    rw [← st.1]
    by_cases c1 : s.1 = ("read" : Str)
    · rw [if_pos c1, if_pos c1, st.2.1 (.inl c1)]; exact .num _
    · rw [if_neg c1, if_neg c1]
      by_cases c2 : s.1 = ("say" : Str)
      · rw [if_pos c2, if_pos c2, st.2.1 (.inr c2)]; exact .wd _
      · rw [if_neg c2, if_neg c2]
        have q := st.2.2 c1 c2
        unfold nodOf
        rw [bis_fls R1 R2 B q br]
        by_cases c3 : fls rs2 t.2 br = true
        · rw [if_pos c3, if_pos c3]; exact .gap
        · rw [if_neg c3, if_neg c3]
          obtain ⟨tt1, tt2, a', b', _⟩ := B _ _ q
          exact .nd ⟨_, _, fstIx_at (pls_in a'), fstIx_at (pls_in b'), q⟩
theorem itemOf_cases (val : Str → Int) (rs : List Pr) (br : List Str) (s : Step) : (∃ n, itemOf val (nodOf rs br) s = .num n) ∨ (s.1 = ("say" : Str) ∧ itemOf val (nodOf rs br) s = .wd s.2) ∨ itemOf val (nodOf rs br) s = .gap ∨ (s.1 ≠ ("read" : Str) ∧ s.1 ≠ ("say" : Str) ∧ itemOf val (nodOf rs br) s = .nd (fstIx s.2 (rs.map Pr.name))) := by
  unfold itemOf nodOf
  by_cases c1 : s.1 = ("read" : Str)
  · rw [if_pos c1]; exact .inl ⟨_, rfl⟩
  · rw [if_neg c1]
    by_cases c2 : s.1 = ("say" : Str)
    · rw [if_pos c2]; exact .inr (.inl ⟨c2, rfl⟩)
    · rw [if_neg c2]
      by_cases c3 : fls rs s.2 br = true
      · rw [if_pos c3]; exact .inr (.inr (.inl rfl))
      · rw [if_neg c3]; exact .inr (.inr (.inr ⟨c1, c2, rfl⟩))
theorem wRows_ok {rs : List Pr} (R : RightP rs) (val : Str → Int) (br : List Str) : RwsOk (wRows rs val br) := by
  refine ⟨by unfold wRows; rw [List.length_map]; have := R.few; omega, fun row hr => ?_⟩
  have el : (wRows rs val br).length = (rs.map Pr.name).length := by unfold wRows; rw [List.length_map, List.length_map]
  rw [el]
  unfold wRows at hr
  obtain ⟨r, hrm, rfl⟩ := List.mem_map.mp hr
  have bd := (R.ri r hrm).2.1
  refine ⟨by rw [List.length_map]; exact bodyB_len bd, fun w hw => ?_, fun i hi => ?_⟩
  · obtain ⟨s, hs, e⟩ := List.mem_map.mp hw
    rcases itemOf_cases val rs br s with ⟨n, h⟩ | ⟨_, h⟩ | h | ⟨_, _, h⟩
    · rw [h] at e; cases e
    · rw [h] at e; cases e; exact (stepB_name (bodyB_st bd s hs)).ok
    · rw [h] at e; cases e
    · rw [h] at e; cases e
  · obtain ⟨s, hs, e⟩ := List.mem_map.mp hi
    rcases itemOf_cases val rs br s with ⟨n, h⟩ | ⟨_, h⟩ | h | ⟨c1, c2, h⟩
    · rw [h] at e; cases e
    · rw [h] at e; cases e
    · rw [h] at e; cases e
    · rw [h] at e
      injection e with e
      rw [← e]
      have m := R.ca r hrm s hs (calls_of (stepB_kind (bodyB_st bd s hs)) c1 c2)
      exact (List.getElem?_eq_some_iff.mp (fstIx_at m)).1
/-- what _difference gives -/
noncomputable def difW (rs1 : List Pr) (n1 : Str) (rs2 : List Pr) (n2 : Str) (val : Str → Int) (br : List Str) : Option (List Int) :=
  if fls rs1 n1 br = true then (if fls rs2 n2 br = true then none else some [])
  else if fls rs2 n2 br = true then some [] else difP (wRows rs1 val br) (wRows rs2 val br) (fstIx n1 (rs1.map Pr.name)) (fstIx n2 (rs2.map Pr.name))
theorem difW_bis {ρ : Str → Str → Prop} {rs1 rs2 : List Pr} (R1 : RightP rs1) (R2 : RightP rs2) (B : Bis ρ rs1 rs2) {n1 n2 : Str} (h : ρ n1 n2) (val : Str → Int) (br : List Str) : difW rs1 n1 rs2 n2 val br = none := by
  unfold difW
  rw [bis_fls R1 R2 B h br]
  by_cases c : fls rs2 n2 br = true
  · rw [if_pos c, if_pos c]
  · rw [if_neg c, if_neg c]
    obtain ⟨ss1, ss2, a, b, _⟩ := B _ _ h
    exact difP_sim (bis_sim R1 R2 B val br) ⟨n1, n2, fstIx_at (pls_in a), fstIx_at (pls_in b), h⟩
section
variable {P : Program} {w : World} {K : PySem.W.Frag} {mg : Str → Option Value} {base : Heap} {Cp C CS : Addr}
/-! ### _difference -/
def spDifG (K : PySem.W.Frag) (Cp C CS : Addr) : Sp := fun vs H Q _ => ∃ (x1 x2 p1 p2 b dv : Addr) (rs1 rs2 : List Pr) (n1 n2 : Str) (st1 st2 : Nat) (ps br : List Str) (val : Str → Int), vs = [.ref x1, .ref x2, .ref b] ∧
  SideA K Cp C CS H x1 p1 rs1 n1 st1 dv ps val ∧ SideA K Cp C CS H x2 p2 rs2 n2 st2 dv ps val ∧ SqT K H b (br.map V.str) ∧ br.length ≤ 1 ∧ (difW rs1 n1 rs2 n2 val br = none → ∀ H', Same H H' → Q .non H') ∧
  (∀ e, difW rs1 n1 rs2 n2 val br = some e → ∀ t H', Same H H' → SqT K H' t (e.map V.int) → Q (.ref t) H')
abbrev sDifference : Stmt := top 41
theorem scDifference : FnScope ["one", "two", "broken"] ["one", "two", "broken"] (defScope sDifference) := ⟨rfl, rfl, rfl, by decide +kernel, rfl, by decide +kernel, by decide +kernel⟩
theorem SideA.right {H : Hp} {x p : Addr} {rs : List Pr} {nm : Str} {st : Nat} {dv : Addr} {ps : List Str} {val : Str → Int} (S : SideA K Cp C CS H x p rs nm st dv ps val) : RightP rs := let ⟨_, _, _, _, _, _, _, R, _⟩ := S.prg; R
set_option maxHeartbeats 1000000 in
theorem ok_difG {f : Addr} {fd : FuncData} (F : Fun K "_difference" "_difference" sDifference f fd) (T : SdC K mg CS) (c_fails : CalM P w K mg base CX0 2 CS "fails" ["self", "name", "broken"] (spSdFails K Cp C CS)) (c_rows : CalM P w K mg base CX0 4 CS "world_rows" ["self", "broken"] (spSdRows K Cp C CS))
    (d_difference_path : CalD P w K mg base CX0 2 "difference_path" ["rows", "others", "start", "other_start"] (spDiffG K) []) : FnOk P w K mg base CX0 5 f fd ["one", "two", "broken"] (spDifG K Cp C CS) := by
  refine F.ok scDifference (fun vs H Q E h => ?_) (fun cdv A outer s H vs Q E hr h => ?_)
  · obtain ⟨x1, x2, p1, p2, b, dv, rs1, rs2, n1, n2, st1, st2, ps, br, val, rfl, _⟩ := h
    rfl
  · obtain ⟨x1, x2, p1, p2, b, dv, rs1, rs2, n1, n2, st1, st2, ps, br, val, rfl, S1, S2, hb, lb, kN, kS⟩ := h
    have hr2 : Room 2 _ := hr.mono (by decide : 2 ≤ 4)
    have R1 := S1.right
    have R2 := S2.right
    refine ⟨_, (pss_cons (ps_if (PW.pt (pw_or (pt_val (om_meth (pv 0) T.ins.cl c_fails hr2 pass0 (pa_cons (fldK K (pv 0)) (pa_cons (pv 2) pa_nil)))) (pw_or1 (pt_val (om_meth (pv 1) T.ins.cl c_fails hr2 pass0 (pa_cons (fldK K (pv 1)) (pa_cons (pv 2) pa_nil)))))))
        (pss_one (ps_ret (pe_ifExp (PW.pt (pw_and (pt_val (om_meth (pv 0) T.ins.cl c_fails hr2 pass0 (pa_cons (fldK K (pv 0)) (pa_cons (pv 2) pa_nil)))) (pw_and1 (pt_val (om_meth (pv 1) T.ins.cl c_fails hr2 pass0 (pa_cons (fldK K (pv 1)) (pa_cons (pv 2) pa_nil))))))) pe_non (pe_tup pa_nil)))) pss_nil)
      (pss_one (ps_ret (pe_cald d_difference_path hr2 pass0 (pa_cons (om_meth (pv 0) T.ins.cl c_rows hr pass0 (pa_cons (pv 2) pa_nil)) (pa_cons (om_meth (pv 1) T.ins.cl c_rows hr pass0 (pa_cons (pv 2) pa_nil)) (pa_cons (fldK K (pv 0)) (pa_cons (fldK K (pv 1)) pa_nil)))))))), ?_⟩
    have m1 := List.mem_of_getElem? S1.st
    have m2 := List.mem_of_getElem? S2.st
    have one : ∀ {H' : Hp}, Same H H' → ∃ dx wk, H' x1 = some (.ins CS dx (flS p1 n1 dv st1 wk)) := fun s => let ⟨dx, wk, a, _⟩ := (S1.same s).o; ⟨dx, wk, a⟩
    have two : ∀ {H' : Hp}, Same H H' → ∃ dx wk, H' x2 = some (.ins CS dx (flS p2 n2 dv st2 wk)) := fun s => let ⟨dx, wk, a, _⟩ := (S2.same s).o; ⟨dx, wk, a⟩
    obtain ⟨dx1, wk1, i1⟩ := one (Same.refl H)
    unfold difW at kN kS
    refine ⟨_, rfl, x1, dx1, _, rfl, i1, flS_f, _, rfl, x1, CS, dx1, _, _, rfl, i1, T.ins.cl, T.nN, flS_n, _, rfl, x1, p1, b, dv, rs1, n1, n1, st1, ps, br, val, rfl, S1, m1, hb, lb, fun H1 s1 => ⟨_, rfl, ?_⟩⟩
    obtain ⟨dx1', wk1', i1'⟩ := one s1
    obtain ⟨dx2', wk2', i2'⟩ := two s1
    by_cases ef : fls rs1 n1 br = true
    · rw [if_pos ef] at kN kS
      rw [ef]
      refine iteT (iteT ?_)
      refine ⟨_, rfl, x1, dx1', _, rfl, i1', flS_f, _, rfl, x1, CS, dx1', _, _, rfl, i1', T.ins.cl, T.nN, flS_n, _, rfl, x1, p1, b, dv, rs1, n1, n1, st1, ps, br, val, rfl, S1.same s1, m1, s1.tup hb, lb, fun H2 s2 => ⟨_, rfl, ?_⟩⟩
      rw [ef]
      have s02 := s1.trans s2
      obtain ⟨dx2, wk2, i2⟩ := two s02
      refine iteT ⟨_, rfl, x2, dx2, _, rfl, i2, flS_f, _, rfl, x2, CS, dx2, _, _, rfl, i2, T.ins.cl, T.nN, flS_n, _, rfl, x2, p2, b, dv, rs2, n2, n2, st2, ps, br, val, rfl, S2.same s02, m2, s02.tup hb, lb, fun H3 s3 => ⟨_, rfl, ?_⟩⟩
      by_cases eg : fls rs2 n2 br = true
      · rw [if_pos eg] at kN kS
        rw [eg]
        exact iteT (kN rfl _ (s02.trans s3))
      · rw [if_neg eg] at kN kS
        rw [Bool.not_eq_true] at eg
        rw [eg]
        exact iteF ⟨(by show 0 ≤ sizeLine; decide), fun t nt => kS [] rfl t _ ((s02.trans s3).trans (Same.new nt)) (.of upd_same)⟩
    · rw [if_neg ef] at kN kS
      rw [Bool.not_eq_true] at ef
      rw [ef]
      refine iteF ⟨_, rfl, x2, dx2', _, rfl, i2', flS_f, _, rfl, x2, CS, dx2', _, _, rfl, i2', T.ins.cl, T.nN, flS_n, _, rfl, x2, p2, b, dv, rs2, n2, n2, st2, ps, br, val, rfl, S2.same s1, m2, s1.tup hb, lb, fun H2 s2 => ⟨_, rfl, ?_⟩⟩
      have s02 := s1.trans s2
      obtain ⟨dx1, wk1, i1⟩ := one s02
      by_cases eg : fls rs2 n2 br = true
      · rw [if_pos eg] at kN kS
        rw [eg]
        refine iteT ⟨_, rfl, x1, dx1, _, rfl, i1, flS_f, _, rfl, x1, CS, dx1, _, _, rfl, i1, T.ins.cl, T.nN, flS_n, _, rfl, x1, p1, b, dv, rs1, n1, n1, st1, ps, br, val, rfl, S1.same s02, m1, s02.tup hb, lb, fun H3 s3 => ⟨_, rfl, ?_⟩⟩
        rw [ef]
        exact iteF (iteF ⟨(by show 0 ≤ sizeLine; decide), fun t nt => kS [] rfl t _ ((s02.trans s3).trans (Same.new nt)) (.of upd_same)⟩)
      rw [if_neg eg] at kN kS
      rw [Bool.not_eq_true] at eg
      rw [eg]
      refine iteF ⟨_, rfl, x1, dx1, _, rfl, i1, flS_r, _, rfl, x1, p1, b, dv, rs1, n1, st1, ps, br, val, rfl, S1.same s02, s02.tup hb, lb, fun a1 H3 na1 ra1 s3 => ?_⟩
      have s03 := s02.trans s3
      obtain ⟨dx2, wk2, i2⟩ := two s03
      refine ⟨_, rfl, x2, dx2, _, rfl, i2, flS_r, _, rfl, x2, p2, b, dv, rs2, n2, st2, ps, br, val, rfl, S2.same s03, s03.tup hb, lb, fun a2 H4 na2 ra2 s4 => ?_⟩
      have s04 := s03.trans s4
      obtain ⟨dx1, wk1, i1⟩ := one s04
      obtain ⟨dx2, wk2, i2⟩ := two s04
      refine ⟨_, rfl, x1, CS, dx1, _, _, rfl, i1, T.ins.cl, T.nS, flS_s, _, rfl, x2, CS, dx2, _, _, rfl, i2, T.ins.cl, T.nS, flS_s, ?_⟩
      have w1 : (wRows rs1 val br).length = (rs1.map Pr.name).length := by unfold wRows; rw [List.length_map, List.length_map]
      have w2 : (wRows rs2 val br).length = (rs2.map Pr.name).length := by unfold wRows; rw [List.length_map, List.length_map]
      rw [fstIx_nd R1.nd S1.st, fstIx_nd R2.nd S2.st] at kN kS
      exact ⟨a1, a2, st1, st2, wRows rs1 val br, wRows rs2 val br, rfl, ra1.same s4, ra2, wRows_ok R1 val br, wRows_ok R2 val br, by rw [w1]; exact (List.getElem?_eq_some_iff.mp S1.st).1, by rw [w2]; exact (List.getElem?_eq_some_iff.mp S2.st).1, fun e H5 s5 => kN e H5 (s04.trans s5), fun e he t H5 s5 sq => kS e he t H5 (s04.trans s5) sq⟩
end
end Mf
namespace Mf
open PySem L2
section
variable {P : Program} {w : World} {K : PySem.W.Frag} {mg : Str → Option Value} {base : Heap} {Cp C CS : Addr}
theorem cat_tup {K : PySem.W.Frag} {H : Hp} {Q : VK} {a b : Addr} {xs ys : List V} (ha : H a = some (.tup xs)) (hb : H b = some (.tup ys)) (hz : xs.length + ys.length ≤ sizeLine) (k : ∀ q H', Same H H' → H' q = some (.tup (xs ++ ys)) → Q (.ref q) H') : rCatA K (.ref a) (.ref b) H Q :=
  ⟨a, b, xs, ys, rfl, rfl, .of ha, .of hb, hz, fun e => k b H (Same.refl H) (by rw [e]; exact hb), fun _ e => k a H (Same.refl H) (by rw [e, List.append_nil]; exact ha), fun _ _ p hp => k p _ (Same.new hp) upd_same⟩
theorem reads_len : ∀ {rs : List Pr}, (∀ r ∈ rs, r.ss.length ≤ 12) → (readsOf rs).length ≤ 12 * rs.length
  | [], _ => Nat.le_refl _
  | r :: rs, h => by
    have a := reads_len (rs := rs) fun q hq => h q (List.mem_cons_of_mem _ hq)
    have b := readsIn_len r.ss
    have c := h r List.mem_cons_self
    have e : readsOf (r :: rs) = readsIn r.ss ++ readsOf rs := by unfold readsOf; simp
    rw [e, List.length_append, List.length_cons]
    omega
theorem up_few {rs : List Pr} {pl : List Str} (R : RightP rs) (up : Up pl) (m : ∀ z, z ∈ pl ↔ z ∈ readsOf rs) : pl.length ≤ 192 := by
  have a := nodup_le up.nd (fun z hz => (m z).mp hz)
  have b := reads_len (rs := rs) (fun r hr => bodyB_len (R.ri r hr).2.1)
  have c := R.few
  omega
/-- the worlds of parting -/
def brs (ms : List Str) : List (List Str) := [] :: ms.map fun z => [z]
/-- what parting gives -/
noncomputable def partP (rs1 : List Pr) (n1 : Str) (rs2 : List Pr) (n2 : Str) (ms : List Str) : Option (List Str × List Int) :=
  (brs ms).findSome? fun br => (difW rs1 n1 rs2 n2 (fun z => (fstIx z ms : Nat)) br).map fun e => (br, e)
theorem find_drop {α β : Type} (f : α → Option β) : ∀ {xs : List α} {i : Nat} {x : α}, xs[i]? = some x → (xs.drop i).findSome? f = (match f x with | some y => some y | none => (xs.drop (i + 1)).findSome? f)
  | [], i, x, h => by simp at h
  | a :: xs, 0, x, h => by
    cases h
    rw [List.drop_zero, List.findSome?_cons]
    rfl
  | a :: xs, i + 1, x, h => find_drop f (xs := xs) (i := i) h
/-- two procedures and the places of their programs -/
def PlOf (rs1 rs2 : List Pr) (ms : List Str) : Prop := Up ms ∧ ∀ z, z ∈ ms ↔ (z ∈ readsOf rs1 ∨ z ∈ readsOf rs2)
def spPartG (K : PySem.W.Frag) (Cp : Addr) : Sp := fun vs H Q _ => ∃ (p1 p2 : Addr) (rs1 rs2 : List Pr) (n1 n2 : Str), vs = [.ref p1, .str n1, .ref p2, .str n2] ∧ Prg K Cp H p1 rs1 ∧ Prg K Cp H p2 rs2 ∧ n1 ∈ rs1.map Pr.name ∧ n2 ∈ rs2.map Pr.name ∧
  ∀ ms, PlOf rs1 rs2 ms → (partP rs1 n1 rs2 n2 ms = none → ∀ H', Same H H' → Q .non H') ∧
    (∀ br e, partP rs1 n1 rs2 n2 ms = some (br, e) → ∀ t tb te H', Same H H' → H' t = some (.tup [.ref tb, .ref te]) → SqT K H' tb (br.map V.str) → SqT K H' te (e.map V.int) → Q (.ref t) H')
abbrev sParting : Stmt := top 40
theorem scParting : FnScope ["program", "name", "other", "other_name", "places", "numbers", "broken", "one", "two", "path", "number", "place"] ["program", "name", "other", "other_name"] (defScope sParting) := ⟨rfl, rfl, rfl, by decide +kernel, rfl, by decide +kernel, by decide +kernel⟩
set_option maxHeartbeats 2000000 in
theorem ok_partG {f : Addr} {fd : FuncData} (F : Fun K "parting" "parting" sParting f fd) (T : NsC K mg C) (TP : PgC K mg Cp) (TS : SdC K mg CS) (mEnum : mg "enumerate" = none) (mk1 : CalN P w K mg base C []) (mkS : CalC P w K mg base CX0 6 "Side" CS ["self", "program", "name", "numbers"] (spSdInit K Cp C CS) [])
    (c_check_procedure : Cal P w K mg base CX0 2 "check_procedure" ["program", "name"] (spCheck K Cp)) (c__difference : Cal P w K mg base CX0 5 "_difference" ["one", "two", "broken"] (spDifG K Cp C CS)) :
    FnOk P w K mg base CX0 8 f fd ["program", "name", "other", "other_name"] (spPartG K Cp) := by
  refine F.ok scParting (fun vs H Q E h => ?_) (fun cdv A outer s H vs Q E hr h => ?_)
  · obtain ⟨p1, p2, rs1, rs2, n1, n2, rfl, _⟩ := h
    rfl
  · obtain ⟨p1, p2, rs1, rs2, n1, n2, rfl, hP1, hP2, i1, i2, k⟩ := h
    have hr2 := hr.mono (by decide : 2 ≤ 7)
    have hr_check_procedure := hr2
    have hr__difference := hr.mono (by decide : 5 ≤ 7)
    refine ⟨_, (pss_cons (ps_expr (pe_cal c_check_procedure hr_check_procedure pass0 (pa_cons (pv 0) (pa_cons (pv 1) pa_nil))))
      (pss_cons (ps_expr (pe_cal c_check_procedure hr_check_procedure pass0 (pa_cons (pv 2) (pa_cons (pv 3) pa_nil))))
      (pss_cons (ps_set (i := 4) scParting.nd rfl (by first | exact Or.inl rfl | exact Or.inr rfl) (fldK K (pe_mkc mk1 hr2 pass0 (pa_cons (pe_op op_catA (fldK K (pv 0)) (fldK K (pv 2))) pa_nil))))
      (pss_cons (ps_setDc (i := 5) (own := [("number", 10), ("place", 11)]) (g := (gTup K 2 (gCons (gName 10) (gCons (gName 11) gNil)))) (tt := tYes) rfl scParting.nd rfl rfl (sw_trueD rfl rfl rfl (by decide +kernel)) (pi_enumA (by rfl) mEnum (pa_cons (pv 4) pa_nil)) (blkOk_by (own := [("number", 10), ("place", 11)]) (N := ["program", "name", "other", "other_name", "places", "numbers", "broken", "one", "two", "path", "number", "place"]) (sc := defScope sParting) (by decide +kernel)) (fun _ _ _ _ _ => (pg_tup rfl (pgs_cons (pg_name (i := 10) scParting.nd rfl (by first | exact Or.inl rfl | exact Or.inr rfl)) (pgs_cons (pg_name (i := 11) scParting.nd rfl (by first | exact Or.inl rfl | exact Or.inr rfl)) pgs_nil)))) (fun _ _ _ _ _ => pts_nil) (fun _ _ _ _ _ => (pv 11)) (fun _ _ _ _ _ => (pv 10)))
      (pss_cons (ps_par (i := 7) (j := 8) (by rfl) scParting.nd rfl rfl (by decide) rfl rfl (pa_cons (pe_mkc mkS hr pass0 (pa_cons (pv 0) (pa_cons (pv 1) (pa_cons (pv 5) pa_nil)))) (pa_cons (pe_mkc mkS hr pass0 (pa_cons (pv 2) (pa_cons (pv 3) (pa_cons (pv 5) pa_nil)))) pa_nil)) (by rfl))
      (pss_cons (ps_for PassesOwn.never rfl (pi_list (pe_op op_cat (pe_lst (pa_cons (pe_tup pa_nil) pa_nil)) (pe_lc (own := [("place", 11)]) (g := (gName 11)) (tt := tYes) rfl scParting.nd (pi_tup (pv 4)) (blkOk_by (own := [("place", 11)]) (N := ["program", "name", "other", "other_name", "places", "numbers", "broken", "one", "two", "path", "number", "place"]) (sc := defScope sParting) (by decide +kernel)) (fun _ _ _ _ _ => (pg_name (i := 11) scParting.nd rfl (by first | exact Or.inl rfl | exact Or.inr rfl))) (fun _ _ _ _ _ => pts_nil) (fun _ _ _ _ _ => (pe_tup (pa_cons (pv 11) pa_nil)))))) (pg_name (i := 6) scParting.nd rfl (by first | exact Or.inl rfl | exact Or.inr rfl))
        (pss_cons (ps_set (i := 9) scParting.nd rfl (by first | exact Or.inl rfl | exact Or.inr rfl) (pe_cal c__difference hr__difference pass0 (pa_cons (pv 7) (pa_cons (pv 8) (pa_cons (pv 6) pa_nil)))))
        (pss_one (ps_if (pt_cmpR op_notN (pv 9) pe_non (nomark _))
          (pss_one (ps_ret (pe_tup (pa_cons (pv 6) (pa_cons (pv 9) pa_nil))))) pss_nil))))
      (pss_one (ps_ret pe_non)))))))), ?_⟩
    refine ⟨_, rfl, _, rfl, p1, rs1, n1, rfl, hP1, i1, ?_⟩
    refine ⟨_, rfl, _, rfl, p2, rs2, n2, rfl, hP2, i2, ?_⟩
    obtain ⟨dx1, d1, m1, q1, us1, pl1, x1, R1, up1, mm1⟩ := id hP1
    obtain ⟨dx2, d2, m2, q2, us2, pl2, x2, R2, up2, mm2⟩ := id hP2
    have l1 := up_few R1 up1 mm1
    have l2 := up_few R2 up2 mm2
    have big : (5000 : Nat) < sizeLine := by decide
    refine ⟨_, rfl, p1, Cp, dx1, _, _, rfl, x1.o, TP.ins.cl, TP.nQ, flP_q d1 m1 q1, _, rfl, p2, Cp, dx2, _, _, rfl, x2.o, TP.ins.cl, TP.nQ, flP_q d2 m2 q2, ?_⟩
    refine cat_tup x1.q x2.q (by rw [List.length_map, List.length_map]; omega) fun q H1 s1 hq => ?_
    rw [← List.map_append] at hq
    have okl : ∀ z ∈ pl1 ++ pl2, PyData.strOk z = true := fun z hz => by
      rcases List.mem_append.mp hz with h | h
      · exact (readsOf_ok R1.ri z ((mm1 z).mp h)).ok
      · exact (readsOf_ok R2.ri z ((mm2 z).mp h)).ok
    intro r dx0 nr0 nd0 _
    have fewl : (pl1 ++ pl2).length < 4000 := by rw [List.length_append]; omega
    refine ⟨r, dx0, _, pl1 ++ pl2, rfl, upd_same, .tup ((ns_grow nr0 nd0) _ _ hq), fewl, fun t0 ms H2 up0 m h1 h2 kp => ⟨rfl, ?_⟩⟩
    obtain ⟨N, s2⟩ := ns_after fewl okl nr0 nd0 up0 m h1 h2 kp
    have s02 := s1.trans s2
    obtain ⟨kN, kS⟩ := k ms ⟨up0, fun z => by rw [m z, List.mem_append, mm1 z, mm2 z]⟩
    obtain ⟨dxr, t, hr1, ht, upm, fewm, okm⟩ := N
    have msub1 : ∀ d ∈ readsOf rs1, d ∈ ms := fun d hd => (m d).mpr (List.mem_append_left _ ((mm1 d).mpr hd))
    have msub2 : ∀ d ∈ readsOf rs2, d ∈ ms := fun d hd => (m d).mpr (List.mem_append_right _ ((mm2 d).mpr hd))
    refine ⟨r, C, dxr, _, _, rfl, hr1, T.ins.cl, T.nM, flM_get t, ?_⟩
    refine ⟨_, rfl, t, _, rfl, .inr ⟨.of ht, fun D hD => ?_⟩⟩
    refine it_any walk_enumST (fun i H' => Same H2 H' ∧ ∃ kvs : List (Key × V), H' D = some (.dK kvs) ∧ kvs.length ≤ i ∧ ∀ z ∈ ms.take i, valV kvs (Sum.inr z) = some (.int (fstIx z ms : Nat)))
      ⟨Same.new hD, [], upd_same, Nat.zero_le _, (by simp)⟩ (fun i H' _ q => .of (q.1 _ _ ht)) ?_ ?_
    · rintro i y H3 H4 hi ⟨s3, kvs, hD3, l3, v3⟩ ⟨t0, x0, y0, rfl, hT, rfl, e1, e2⟩
      obtain rfl : x0 = .int (0 + (i : Nat)) := (Option.some.inj e1).symm
      have e2 : (ms.map V.str)[i]? = some y0 := e2
      rw [List.getElem?_map] at e2
      obtain ⟨z, hz, rfl⟩ := Option.map_eq_some_iff.mp e2
      rw [Int.zero_add]
      rw [List.length_map] at hi
      have s4 := s3.trans (Same.new (o := .tup [.int (i : Nat), .str z]) hT)
      have hD4 := (Same.new (o := .tup [.int (i : Nat), .str z]) hT) _ _ hD3
      have h0 : (upd H3 t0 (.tup [.int (i : Nat), .str z])) t0 = some (.tup [.int (i : Nat), .str z]) := upd_same
      generalize upd H3 t0 (.tup [.int (i : Nat), .str z]) = H5 at s4 hD4 h0
      refine ⟨t0, _, rfl, .of h0, rfl, _, _, rfl, _, _, rfl, rfl, rfl, yes_then ?_⟩
      refine ⟨_, rfl, _, rfl, kvs, Sum.inr z, rfl, hD4, (by omega), s4.mut hD, _, upd_same, Nat.le_trans (putK_le _ _ _) (by omega), fun z2 hz2 => ?_⟩
      by_cases e : z2 = z
      · subst e
        rw [valV_put, if_pos rfl, fstIx_nd upm.nd hz]
      · have z2m : z2 ∈ ms.take i := by
          rw [List.take_add_one, hz] at hz2
          rcases List.mem_append.mp hz2 with h | h
          · exact h
          · exact absurd (List.mem_singleton.mp h) e
        rw [valV_put, if_neg (fun h => e (Sum.inr.inj h))]
        exact v3 z2 z2m
    · rintro H3 ⟨s3, kvs, hD3, l3, v3⟩
      rw [List.length_map, List.take_length] at v3
      have s03 := s02.trans s3
      have V3 : NumD H3 D ms (fun z => (fstIx z ms : Nat)) := ⟨kvs, hD3, v3⟩
      have ht3 := s3 _ _ ht
      refine ⟨_, rfl, _, rfl, _, rfl, ?_⟩
      intro o1 dxo1 no1 ndo1 _
      refine ⟨o1, dxo1, p1, D, rs1, n1, ms, _, rfl, upd_same, (hP1.same s03).same (ns_grow no1 ndo1), i1, V3.same (ns_grow no1 ndo1), msub1, fun H4 st1 SA1 B4 => ⟨rfl, ?_⟩⟩
      have s4 : Same H3 H4 := fun b o e => B4 b o (ne_of_none e no1) ((ns_grow no1 ndo1) b o e)
      have s04 := s03.trans s4
      refine ⟨_, rfl, _, rfl, _, rfl, ?_⟩
      intro o2 dxo2 no2 ndo2 _
      refine ⟨o2, dxo2, p2, D, rs2, n2, ms, _, rfl, upd_same, (hP2.same s04).same (ns_grow no2 ndo2), i2, (V3.same s4).same (ns_grow no2 ndo2), msub2, fun H5 st2 SA2 B5 => ⟨rfl, ?_⟩⟩
      have s5 : Same H4 H5 := fun b o e => B5 b o (ne_of_none e no2) ((ns_grow no2 ndo2) b o e)
      have s05 := s04.trans s5
      have SA1 := SA1.same s5
      have ht5 := s5 _ _ (s4 _ _ ht3)
      refine ⟨_, _, rfl, ?_⟩
      refine ⟨(by show 0 ≤ sizeLine; decide), fun u0 nu0 => ⟨(by show 1 ≤ sizeLine; decide), fun L nL => ?_⟩⟩
      have s6 : Same H5 (upd (upd H5 u0 (.tup [])) L (.lst [.ref u0])) := (Same.new nu0).trans (Same.new nL)
      have hL6 : (upd (upd H5 u0 (.tup [])) L (.lst [.ref u0])) L = some (.lst [.ref u0]) := upd_same
      have hu6 : (upd (upd H5 u0 (.tup [])) L (.lst [.ref u0])) u0 = some (.tup []) := (Same.new nL) _ _ upd_same
      generalize upd (upd H5 u0 (.tup [])) L (.lst [.ref u0]) = H6 at s6 hL6 hu6
      have ht6 := s6 _ _ ht5
      refine ⟨_, rfl, t, rfl, ⟨_, .of ht6⟩, fun D2 hD2 => ?_⟩
      refine lc_it walk_tup (fun i H' => Same H6 H' ∧ ∃ us : List Addr, H' D2 = some (.lst (us.map V.ref)) ∧ us.length = i ∧ Paired (fun u z => H' u = some (.tup [.str z])) us (ms.take i)) ⟨Same.new hD2, [], upd_same, rfl, .nil⟩ (fun i H' _ q => .of (q.1 _ _ ht6)) ?_ ?_
      · rintro i y _ H7 hi ⟨s7, us, h7, l7, pr7⟩ ⟨rfl, hx⟩
        rw [List.getElem?_map] at hx
        obtain ⟨z, hz, rfl⟩ := Option.map_eq_some_iff.mp hx
        rw [List.length_map] at hi
        refine ⟨rfl, yes_then ?_⟩
        refine ⟨_, rfl, (by show 1 ≤ sizeLine; decide), fun u nu => ?_⟩
        have h8 := (Same.new (o := .tup [.str z]) nu) _ _ h7
        have nD : u ≠ D2 := ne_none nu h7
        refine ⟨_, h8, by rw [List.length_map]; omega, (s7.trans (Same.new nu)).mut hD2, us ++ [u], by rw [upd_same, List.map_append]; rfl, by rw [List.length_append, l7]; rfl, ?_⟩
        have pn : SameN (upd H7 u (.tup [.str z])) (upd (upd H7 u (.tup [.str z])) D2 (.lst (us.map V.ref ++ [.ref u]))) := SameN.refl.put h8
        rw [List.take_add_one, hz]
        exact paired_snoc (paired_same pr7 fun a b q => pn _ _ noL_tup ((Same.new nu) _ _ q)) (pn _ _ noL_tup upd_same)
      · rintro H7 ⟨s7, us, h7, l7, pr7⟩
        rw [List.length_map] at l7 pr7
        rw [List.take_length] at pr7
        refine ⟨L, D2, _, _, rfl, rfl, s7 _ _ hL6, h7, by rw [List.length_map]; show 1 + _ ≤ sizeLine; omega, fun M nM => ?_⟩
        have s8 : Same H7 (upd H7 M (.lst ([.ref u0] ++ us.map V.ref))) := Same.new nM
        have h8 : (upd H7 M (.lst ([.ref u0] ++ us.map V.ref))) M = some (.lst ((u0 :: us).map V.ref)) := upd_same
        generalize upd H7 M (.lst ([.ref u0] ++ us.map V.ref)) = H8 at s8 h8
        have s58 := (s6.trans s7).trans s8
        have br8 : Paired (fun u (br : List Str) => H8 u = some (.tup (br.map V.str)) ∧ br.length ≤ 1) (u0 :: us) ([] :: ms.map fun z => [z]) :=
          .cons ⟨s8 _ _ (s7 _ _ hu6), Nat.zero_le _⟩ (by
            have q : Paired (fun u (br : List Str) => H8 u = some (.tup (br.map V.str)) ∧ br.length ≤ 1) (us.map id) (ms.map fun z => [z]) := paired_map2 pr7 fun a b q => ⟨s8 _ _ q, Nat.le_refl _⟩
            rw [List.map_id] at q
            exact q)
        refine ⟨M, rfl, ⟨_, .of h8⟩, ?_⟩
        have lbr : (u0 :: us).length = (brs ms).length := Paired.length br8
        unfold partP at kN kS
        refine for_it walk_list (fun i σ H' => ∃ (v6 v9 : Option V), σ = [some (.ref p1), some (.str n1), some (.ref p2), some (.str n2), some (.ref t), some (.ref D), v6, some (.ref o1), some (.ref o2), v9, none, none] ∧ Same H8 H' ∧
            ((brs ms).drop i).findSome? (fun br => (difW rs1 n1 rs2 n2 (fun z => (fstIx z ms : Nat)) br).map fun e => (br, e)) = (brs ms).findSome? (fun br => (difW rs1 n1 rs2 n2 (fun z => (fstIx z ms : Nat)) br).map fun e => (br, e))) ⟨none, none, rfl, Same.refl _, rfl⟩ (fun i σ H' _ q => .of (q.choose_spec.choose_spec.2.1 _ _ h8)) ?_ ?_
        · rintro i y σ _ H9 hi ⟨v6, v9, rfl, s9, eq⟩ ⟨rfl, hx⟩
          rw [List.getElem?_map] at hx
          obtain ⟨u, hu, rfl⟩ := Option.map_eq_some_iff.mp hx
          obtain ⟨br, hbr, hub, lb⟩ := L2.paired_get br8 hu
          have s59 := s58.trans s9
          rw [find_drop _ (show (brs ms)[i]? = some br from hbr)] at eq
          refine ⟨_, rfl, _, rfl, _, rfl, o1, o2, p1, p2, u, D, rs1, rs2, n1, n2, st1, st2, ms, br, _, rfl, SA1.same s59, SA2.same s59, .of (s9 _ _ hub), lb, fun ed H10 s10 => ?_, fun e ed te H10 s10 hte => ?_⟩
          · rw [ed] at eq
            refine ⟨_, rfl, rfl, _, rfl, ?_⟩
            rw [decide_eq_true rfl]
            exact iteF ⟨_, _, rfl, s9.trans s10, eq⟩
          · rw [ed] at eq
            refine ⟨_, rfl, rfl, _, rfl, ?_⟩
            rw [decide_eq_false (by intro z; cases z)]
            refine iteT ⟨_, rfl, _, rfl, (by show 2 ≤ sizeLine; decide), fun tt ntt => ?_⟩
            have sF := s10.trans (Same.new (o := .tup [.ref u, .ref te]) ntt)
            exact kS br e eq.symm tt u te _ (s05.trans (s58.trans (s9.trans sF))) upd_same (.of (sF _ _ (s9 _ _ hub))) ((Same.new ntt).tup hte)
        · rintro σ H9 ⟨v6, v9, rfl, s9, eq⟩
          refine kN ?_ H9 (s05.trans (s58.trans s9))
          rw [← eq, List.length_map, lbr, List.drop_length]
          rfl
def spAlikeG (K : PySem.W.Frag) (Cp : Addr) : Sp := fun vs H Q _ => ∃ (p1 p2 : Addr) (rs1 rs2 : List Pr) (n1 n2 : Str), vs = [.ref p1, .str n1, .ref p2, .str n2] ∧ Prg K Cp H p1 rs1 ∧ Prg K Cp H p2 rs2 ∧ n1 ∈ rs1.map Pr.name ∧ n2 ∈ rs2.map Pr.name ∧
  ∀ ms, PlOf rs1 rs2 ms → ∀ H', Same H H' → Q (.bl (partP rs1 n1 rs2 n2 ms).isNone) H'
abbrev sAlike : Stmt := top 39
theorem scAlike : FnScope ["program", "name", "other", "other_name"] ["program", "name", "other", "other_name"] (defScope sAlike) := ⟨rfl, rfl, rfl, by decide +kernel, rfl, by decide +kernel, by decide +kernel⟩
theorem ok_alikeG {f : Addr} {fd : FuncData} (F : Fun K "alike" "alike" sAlike f fd) (c_parting : Cal P w K mg base CX0 8 "parting" ["program", "name", "other", "other_name"] (spPartG K Cp)) :
    FnOk P w K mg base CX0 9 f fd ["program", "name", "other", "other_name"] (spAlikeG K Cp) := by
  refine F.ok scAlike (fun vs H Q E h => ?_) (fun cdv A outer s H vs Q E hr h => ?_)
  · obtain ⟨p1, p2, rs1, rs2, n1, n2, rfl, _⟩ := h
    rfl
  · obtain ⟨p1, p2, rs1, rs2, n1, n2, rfl, hP1, hP2, i1, i2, k⟩ := h
    have hr_parting := hr
    refine ⟨_, (pss_one (ps_ret (pe_cmpR op_isN (pe_cal c_parting hr_parting pass0 (pa_cons (pv 0) (pa_cons (pv 1) (pa_cons (pv 2) (pa_cons (pv 3) pa_nil))))) pe_non (nomark _)))), ?_⟩
    refine ⟨_, rfl, _, rfl, _, rfl, _, rfl, p1, p2, rs1, rs2, n1, n2, rfl, hP1, hP2, i1, i2, fun ms hm => ⟨fun e H' s' => ⟨rfl, ?_⟩, fun br e ee t tb te H' s' _ _ _ => ⟨rfl, ?_⟩⟩⟩
    · have q := k ms hm H' s'
      rw [e] at q
      rw [decide_eq_true rfl]
      exact q
    · have q := k ms hm H' s'
      rw [ee] at q
      rw [decide_eq_false (by intro z; cases z)]
      exact q
end
end Mf
namespace Mf
open PySem L2
/-! ### reads in another order -/
def rdS (p : Str) : Step := ("read", p)
theorem bfs_succ (R1 R2 : List (List Itm)) (n at_ : Nat) (qs : Qs) : bfs R1 R2 (n + 1) at_ qs = match qs[at_]? with
    | none => none
    | some (p, z) => match scan (R1.getD p.1 []) (R2.getD p.2 []) z (max (R1.getD p.1 []).length (R2.getD p.2 []).length) 0 qs with
      | .inl qs' => bfs R1 R2 n (at_ + 1) qs'
      | .inr e => some e := rfl
theorem scan_num {f s : List Int} {z : List Int} {k : Nat} {qs : Qs} (l : f.length = s.length) (hk : k < f.length) (eq : ∀ m, m < k → f[m]? = s[m]?) (ne : f[k]? ≠ s[k]?) : ∀ (n x : Nat), x + n = f.length → x ≤ k → scan (f.map .num) (s.map .num) z n x qs = .inr (z ++ [(k : Int)])
  | 0, x, h, hx => by omega
  | n + 1, x, h, hx => by
    have h1 : (f.map Itm.num)[x]? = some (.num f[x]) := by rw [List.getElem?_map, List.getElem?_eq_getElem (by omega)]; rfl
    have h2 : (s.map Itm.num)[x]? = some (.num s[x]) := by rw [List.getElem?_map, List.getElem?_eq_getElem (by omega)]; rfl
    rw [scan_succ, h1, h2]
    have g1 : f[x]? = some f[x] := List.getElem?_eq_getElem (by omega)
    have g2 : s[x]? = some s[x] := List.getElem?_eq_getElem (by omega)
    have ev : visit (some (.num f[x])) (some (.num s[x])) z x qs = if some (Itm.num f[x]) = some (Itm.num s[x]) then .inl qs else .inr (z ++ [(x : Int)]) := rfl
    rw [ev]
    by_cases e : x = k
    · subst e
      rw [if_neg (fun q => ne (by rw [g1, g2, Itm.num.inj (Option.some.inj q)]))]
    · have q := eq x (by omega)
      rw [g1, g2] at q
      rw [if_pos (by rw [Option.some.inj q])]
      exact scan_num l hk eq ne n (x + 1) (by omega) (by omega)
/-- the first of a filtered range -/
theorem filter_first {L k : Nat} {p : Nat → Bool} {t : List Nat} (h : (List.range L).filter p = k :: t) : k < L ∧ p k = true ∧ ∀ m, m < k → p m = false := by
  have km : k ∈ (List.range L).filter p := by rw [h]; exact List.mem_cons_self
  obtain ⟨a, b⟩ := List.mem_filter.mp km
  have a := List.mem_range.mp a
  refine ⟨a, b, fun m hm => ?_⟩
  cases e : p m with
  | false => rfl
  | true =>
    exfalso
    have mm : m ∈ (List.range L).filter p := List.mem_filter.mpr ⟨List.mem_range.mpr (by omega), e⟩
    have so : ((List.range L).filter p).Pairwise (· < ·) := List.Pairwise.filter _ List.pairwise_lt_range
    rw [h] at mm so
    rcases List.mem_cons.mp mm with q | q
    · omega
    · have := (List.pairwise_cons.mp so).1 m q
      omega
/-- the places where two lists of places differ -/
def unl (f s : List Str) : List Nat := (List.range f.length).filter fun k => !decide (f[k]? = s[k]?)
theorem unl_nil {f s : List Str} (l : f.length = s.length) (h : unl f s = []) : f = s := by
  apply List.ext_getElem? 
  intro k
  by_cases hk : k < f.length
  · have q := List.filter_eq_nil_iff.mp h k (List.mem_range.mpr hk)
    by_cases e : f[k]? = s[k]?
    · exact e
    · rw [decide_eq_false e] at q; exact absurd rfl q
  · rw [List.getElem?_eq_none (by omega), List.getElem?_eq_none (by omega)]
theorem unl_cons {f s : List Str} {k : Nat} {t : List Nat} (h : unl f s = k :: t) : k < f.length ∧ f[k]? ≠ s[k]? ∧ ∀ m, m < k → f[m]? = s[m]? := by
  obtain ⟨a, b, c⟩ := filter_first h
  refine ⟨a, fun e => ?_, fun m hm => ?_⟩
  · rw [decide_eq_true e] at b; cases b
  · have q := c m hm
    by_cases e : f[m]? = s[m]?
    · exact e
    · rw [decide_eq_false e] at q; cases q
/-- the four procedures of the law -/
structure Four (rs : List Pr) (n0 n1 n2 n3 : Str) (f s : List Str) (way : Str) : Prop where
  e : pls rs = [(n0, f.map rdS), (n1, s.map rdS), (n2, [(way, n0)]), (n3, [(way, n1)])]
  w : way ∈ calling
theorem Four.names {rs : List Pr} {n0 n1 n2 n3 : Str} {f s : List Str} {way : Str} (F : Four rs n0 n1 n2 n3 f s way) : rs.map Pr.name = [n0, n1, n2, n3] := by rw [← pls_names, F.e]; rfl
theorem Four.nd {rs : List Pr} {n0 n1 n2 n3 : Str} {f s : List Str} {way : Str} (F : Four rs n0 n1 n2 n3 f s way) (R : RightP rs) : n0 ≠ n1 ∧ n0 ≠ n2 ∧ n0 ≠ n3 ∧ n1 ≠ n2 ∧ n1 ≠ n3 ∧ n2 ≠ n3 := by
  have q := R.nd
  rw [F.names] at q
  simp only [List.nodup_cons, List.mem_cons, List.not_mem_nil, or_false, not_or] at q
  exact ⟨q.1.1, q.1.2.1, q.1.2.2, q.2.1.1, q.2.1.2, q.2.2.1⟩
theorem way_ne {way : Str} (h : way ∈ calling) : way ≠ ("read" : Str) ∧ way ≠ ("say" : Str) := by
  unfold calling at h
  simp only [List.mem_cons, List.not_mem_nil, or_false] at h
  rcases h with rfl | rfl <;> exact ⟨by decide, by decide⟩
theorem rows_pls (rs : List Pr) (val : Str → Int) (br : List Str) : wRows rs val br = (pls rs).map fun x => x.2.map (itemOf val (nodOf rs br)) := by unfold wRows pls; rw [List.map_map]; rfl
theorem fls_nil (rs : List Pr) (z : Str) : fls rs z [] = false := rfl
theorem Four.rows {rs : List Pr} {n0 n1 n2 n3 : Str} {f s : List Str} {way : Str} (F : Four rs n0 n1 n2 n3 f s way) (R : RightP rs) (val : Str → Int) : wRows rs val [] = [(f.map val).map .num, (s.map val).map .num, [.nd 0], [.nd 1]] := by
  obtain ⟨d01, d02, d03, d12, d13, d23⟩ := F.nd R
  obtain ⟨w1, w2⟩ := way_ne F.w
  have rd : ∀ l : List Str, (l.map rdS).map (itemOf val (nodOf rs [])) = (l.map val).map .num := fun l => by
    rw [List.map_map, List.map_map]
    refine List.map_congr_left fun p _ => ?_
    show itemOf val (nodOf rs []) (rdS p) = .num (val p)
    unfold itemOf rdS
    rw [if_pos rfl]
  have cl : ∀ z, itemOf val (nodOf rs []) (way, z) = .nd (fstIx z [n0, n1, n2, n3]) := fun z => by
    unfold itemOf
    rw [if_neg w1, if_neg w2]
    unfold nodOf
    rw [fls_nil, if_neg (by decide), F.names]
  rw [rows_pls, F.e]
  simp only [List.map_cons, List.map_nil, rd, cl]
  have e0 : fstIx n0 [n0, n1, n2, n3] = 0 := by unfold fstIx; rw [if_pos rfl]
  have e1 : fstIx n1 [n0, n1, n2, n3] = 1 := by unfold fstIx; rw [if_neg d01]; unfold fstIx; rw [if_pos rfl]
  rw [e0, e1]
/-- where the reads are unlike -/
theorem Four.flat {rs : List Pr} {n0 n1 n2 n3 : Str} {f s : List Str} {way : Str} (F : Four rs n0 n1 n2 n3 f s way) (R : RightP rs) (l : f.length = s.length) {ms : List Str} (mf : ∀ p ∈ f, p ∈ ms) (msn : ∀ p ∈ s, p ∈ ms) {k : Nat} {t : List Nat} (h : unl f s = k :: t) :
    partP rs n0 rs n1 ms = some ([], [(k : Int)]) ∧ partP rs n2 rs n3 ms = some ([], [0, (k : Int)]) ∧ partP rs n3 rs n2 ms ≠ none := by
  obtain ⟨d01, d02, d03, d12, d13, d23⟩ := F.nd R
  obtain ⟨hk, hne, heq⟩ := unl_cons h
  have inj : ∀ x y, x ∈ ms → y ∈ ms → fstIx x ms = fstIx y ms → x = y := fun x y hx hy e => by
    have a := fstIx_at hx
    rw [e, fstIx_at hy] at a
    exact (Option.some.inj a).symm
  have ix : fstIx n0 (rs.map Pr.name) = 0 ∧ fstIx n1 (rs.map Pr.name) = 1 ∧ fstIx n2 (rs.map Pr.name) = 2 ∧ fstIx n3 (rs.map Pr.name) = 3 := by
    rw [F.names]
    refine ⟨?_, ?_, ?_, ?_⟩
    · unfold fstIx; rw [if_pos rfl]
    · unfold fstIx; rw [if_neg d01]; unfold fstIx; rw [if_pos rfl]
    · unfold fstIx; rw [if_neg d02]; unfold fstIx; rw [if_neg d12]; unfold fstIx; rw [if_pos rfl]
    · unfold fstIx; rw [if_neg d03]; unfold fstIx; rw [if_neg d13]; unfold fstIx; rw [if_neg d23]; unfold fstIx; rw [if_pos rfl]
  obtain ⟨i0, i1, i2, i3⟩ := ix
  generalize hv : (fun z => ((fstIx z ms : Nat) : Int)) = val
  have vinj : ∀ x y, x ∈ ms → y ∈ ms → val x = val y → x = y := fun x y hx hy e => by
    rw [← hv] at e
    exact inj x y hx hy (Int.ofNat.inj e)
  have lf : (f.map val).length = (s.map val).length := by rw [List.length_map, List.length_map, l]
  have kf : k < (f.map val).length := by rw [List.length_map]; exact hk
  have ks : k < (s.map val).length := by omega
  have veq : ∀ m, m < k → (f.map val)[m]? = (s.map val)[m]? := fun m hm => by rw [List.getElem?_map, List.getElem?_map, heq m hm]
  have vne : (f.map val)[k]? ≠ (s.map val)[k]? := fun e => by
    have hs : k < s.length := by omega
    have a1 := List.getElem?_eq_getElem hk
    have a2 := List.getElem?_eq_getElem hs
    rw [List.getElem?_map, List.getElem?_map, a1, a2] at e
    rw [a1, a2] at hne
    exact hne (by rw [vinj _ _ (mf _ (List.getElem_mem hk)) (msn _ (List.getElem_mem hs)) (Option.some.inj e)])
  have sc : ∀ (z : List Int) (qs : Qs), scan ((f.map val).map .num) ((s.map val).map .num) z (max ((f.map val).map Itm.num).length ((s.map val).map Itm.num).length) 0 qs = .inr (z ++ [(k : Int)]) := fun z qs => by
    have el : max ((f.map val).map Itm.num).length ((s.map val).map Itm.num).length = (f.map val).length := by simp [l]
    rw [el]
    exact scan_num lf kf veq vne _ 0 (by omega) (Nat.zero_le _)
  have sc' : ∀ (z : List Int) (qs : Qs), scan ((s.map val).map .num) ((f.map val).map .num) z (max ((s.map val).map Itm.num).length ((f.map val).map Itm.num).length) 0 qs = .inr (z ++ [(k : Int)]) := fun z qs => by
    have el : max ((s.map val).map Itm.num).length ((f.map val).map Itm.num).length = (s.map val).length := by simp [l]
    rw [el]
    exact scan_num lf.symm ks (fun m hm => (veq m hm).symm) (Ne.symm vne) _ 0 (by omega) (Nat.zero_le _)
  have W := F.rows R val
  have flat : difP (wRows rs val []) (wRows rs val []) 0 1 = some [(k : Int)] := by
    rw [W]
    unfold difP
    rw [show 2000 = 1999 + 1 from rfl, bfs_succ]
    show (match scan ((f.map val).map .num) ((s.map val).map .num) [] (max ((f.map val).map Itm.num).length ((s.map val).map Itm.num).length) 0 [((0, 1), [])] with | .inl qs' => _ | .inr e => some e) = _
    rw [sc]; rfl
  have deep : difP (wRows rs val []) (wRows rs val []) 2 3 = some [0, (k : Int)] := by
    rw [W]
    unfold difP
    rw [show 2000 = 1998 + 1 + 1 from rfl, bfs_succ]
    show (match scan [Itm.nd 0] [Itm.nd 1] [] 1 0 [((2, 3), [])] with | .inl qs' => _ | .inr e => some e) = _
    have e1 : scan [Itm.nd 0] [Itm.nd 1] [] 1 0 [((2, 3), [])] = .inl [((2, 3), []), ((0, 1), [0])] := by decide +kernel
    rw [e1]
    show bfs _ _ (1998 + 1) 1 _ = _
    rw [bfs_succ]
    show (match scan ((f.map val).map .num) ((s.map val).map .num) [0] (max ((f.map val).map Itm.num).length ((s.map val).map Itm.num).length) 0 _ with | .inl qs' => _ | .inr e => some e) = _
    rw [sc]; rfl
  have deep' : difP (wRows rs val []) (wRows rs val []) 3 2 = some [0, (k : Int)] := by
    rw [W]
    unfold difP
    rw [show 2000 = 1998 + 1 + 1 from rfl, bfs_succ]
    show (match scan [Itm.nd 1] [Itm.nd 0] [] 1 0 [((3, 2), [])] with | .inl qs' => _ | .inr e => some e) = _
    have e1 : scan [Itm.nd 1] [Itm.nd 0] [] 1 0 [((3, 2), [])] = .inl [((3, 2), []), ((1, 0), [0])] := by decide +kernel
    rw [e1]
    show bfs _ _ (1998 + 1) 1 _ = _
    rw [bfs_succ]
    show (match scan ((s.map val).map .num) ((f.map val).map .num) [0] (max ((s.map val).map Itm.num).length ((f.map val).map Itm.num).length) 0 _ with | .inl qs' => _ | .inr e => some e) = _
    rw [sc']; rfl
  have part : ∀ {a b : Str} {e : List Int}, difP (wRows rs val []) (wRows rs val []) (fstIx a (rs.map Pr.name)) (fstIx b (rs.map Pr.name)) = some e → partP rs a rs b ms = some ([], e) := fun {a b e} h => by
    unfold partP brs
    rw [List.findSome?_cons]
    have d : difW rs a rs b (fun z => ((fstIx z ms : Nat) : Int)) [] = some e := by
      rw [hv]
      unfold difW
      rw [fls_nil, if_neg (by decide), fls_nil, if_neg (by decide)]
      exact h
    rw [d]; rfl
  refine ⟨part (by rw [i0, i1]; exact flat), part (by rw [i2, i3]; exact deep), ?_⟩
  rw [part (by rw [i3, i2]; exact deep')]
  intro z; cases z
/-- where they are the same -/
theorem Four.same {rs : List Pr} {n0 n1 n2 n3 : Str} {f s : List Str} {way : Str} (F : Four rs n0 n1 n2 n3 f s way) (R : RightP rs) (h : f = s) (ms : List Str) :
    partP rs n0 rs n1 ms = none ∧ partP rs n2 rs n3 ms = none ∧ partP rs n3 rs n2 ms = none := by
  subst h
  obtain ⟨w1, w2⟩ := way_ne F.w
  have B : Bis (fun x y => (x = n0 ∧ y = n1) ∨ (x = n2 ∧ y = n3)) rs rs := by
    rintro x y (⟨rfl, rfl⟩ | ⟨rfl, rfl⟩)
    · refine ⟨f.map rdS, f.map rdS, by rw [F.e]; simp, by rw [F.e]; simp, ?_⟩
      have q : ∀ l : List Str, Paired (StM fun a b => (a = x ∧ b = y) ∨ (a = n2 ∧ b = n3)) (l.map rdS) (l.map rdS) := fun l => by
        induction l with
        | nil => exact .nil
        | cons p l ih => exact .cons ⟨rfl, fun _ => rfl, fun e => absurd rfl e⟩ ih
      exact q f
    · exact ⟨[(way, n0)], [(way, n1)], by rw [F.e]; simp, by rw [F.e]; simp, .cons ⟨rfl, fun e => e.elim (fun e => absurd e w1) fun e => absurd e w2, fun _ _ => .inl ⟨rfl, rfl⟩⟩ .nil⟩
  have part : ∀ {ρ : Str → Str → Prop} {a b : Str}, Bis ρ rs rs → ρ a b → partP rs a rs b ms = none := fun {ρ a b} B h => by
    unfold partP
    rw [List.findSome?_eq_none_iff]
    intro br _
    rw [difW_bis R R B h]
    rfl
  exact ⟨part B (.inl ⟨rfl, rfl⟩), part B (.inr ⟨rfl, rfl⟩), part B.flip (.inr ⟨rfl, rfl⟩)⟩
end Mf
namespace Mf
open PySem L2
theorem pg_same {C : Addr} {H H' : Hp} {p dx : Addr} (hp : H p = none) (hd : H dx = none) (kp : ∀ b o, b ≠ p → (upd (upd H dx (.own p)) p (.ins C dx [])) b = some o → H' b = some o) : Same H H' :=
  fun b o e => kp b o (ne_of_none e hp) ((ns_grow hp hd) b o e)
theorem PrL.prA {K : PySem.W.Frag} {H : Hp} {p : Addr} {r : Pr} (x : PrL H p r) : PrA K H p r := ⟨.of x.1, .inl (.of x.2.1), x.2.2⟩
theorem ixN_of {n j : Nat} (h : j < n) : ixN n (j : Int) = some j := by
  unfold ixN
  rw [if_pos (by omega), if_pos (by omega)]
  simp
theorem reads_four {rs : List Pr} {n0 n1 n2 n3 : Str} {f s : List Str} {way : Str} (F : Four rs n0 n1 n2 n3 f s way) : (∀ p ∈ f, p ∈ readsOf rs) ∧ ∀ p ∈ s, p ∈ readsOf rs := by
  rw [readsOf_pls, F.e]
  have rd : ∀ {l : List Str} {p : Str}, p ∈ l → p ∈ readsIn (l.map rdS) := fun {l p} h => reads_mem (s := rdS p) (List.mem_map.mpr ⟨p, h, rfl⟩) rfl
  unfold readsC
  exact ⟨fun p h => List.mem_flatten.mpr ⟨_, List.mem_cons_self, rd h⟩, fun p h => List.mem_flatten.mpr ⟨_, List.mem_cons_of_mem _ List.mem_cons_self, rd h⟩⟩
abbrev dF (k : Int) : PyData := .tuple [.tuple [], .tuple [.int k]]
abbrev dG (k : Int) : PyData := .tuple [.tuple [], .tuple [.int 0, .int k]]
theorem eqv_FG (k : Int) : PyData.eqv (.list [dF k, dG k]) (.list [dF k, dG k]) = true := by
  have e0 : PyData.eqv (.tuple []) (.tuple []) = true := rfl
  have a : PyData.eqv (dF k) (dF k) = true := eqv_two e0 (eqv_one (eqv_i k))
  have b : PyData.eqv (dG k) (dG k) = true := eqv_two e0 (eqv_two (eqv_i 0) (eqv_i k))
  show (PyData.eqv (dF k) (dF k) && (PyData.eqv (dG k) (dG k) && true)) = true
  rw [a, b]; rfl
theorem sh_FG (k : Int) : SeqAt.shaped (.list [dF k, dG k]) = true := by
  have i1 : ∀ n : Int, Sh 0 (.int n) := fun n => .int n
  have t0 : Sh 1 (.tuple []) := .tuple fun _ h => nomatch h
  have t1 : Sh 1 (.tuple [.int k]) := .tuple fun d hd => by rw [List.mem_singleton.mp hd]; exact i1 k
  have t2 : Sh 1 (.tuple [.int 0, .int k]) := .tuple fun d hd => by
    simp only [List.mem_cons, List.not_mem_nil, or_false] at hd
    rcases hd with rfl | rfl
    · exact i1 0
    · exact i1 k
  have F : Sh 2 (dF k) := .tuple fun d hd => by
    simp only [List.mem_cons, List.not_mem_nil, or_false] at hd
    rcases hd with rfl | rfl
    · exact t0
    · exact t1
  have G : Sh 2 (dG k) := .tuple fun d hd => by
    simp only [List.mem_cons, List.not_mem_nil, or_false] at hd
    rcases hd with rfl | rfl
    · exact t0
    · exact t2
  exact (Sh.list (k := 2) fun d hd => by
    simp only [List.mem_cons, List.not_mem_nil, or_false] at hd
    rcases hd with rfl | rfl
    · exact F
    · exact G).sh
abbrev dN : PyData := .list [.none, .none]
abbrev dB (b : Bool) : PyData := .list [.bool b, .bool b]
theorem eqv_N : PyData.eqv dN dN = true := by decide +kernel
theorem sh_N : SeqAt.shaped dN = true := by decide +kernel
theorem eqv_B : ∀ b, PyData.eqv (dB b) (dB b) = true := by decide +kernel
theorem sh_B : ∀ b, SeqAt.shaped (dB b) = true := by decide +kernel
theorem dp_N {K : PySem.W.Frag} {H : Hp} {L : Addr} (h : H L = some (.lst [.non, .non])) : Dp K H (.ref L) dN := .lst (.of h) (.cons .non (.cons .non .nil))
theorem dp_B {K : PySem.W.Frag} {H : Hp} {L : Addr} {b : Bool} (h : H L = some (.lst [.bl b, .bl b])) : Dp K H (.ref L) (dB b) := .lst (.of h) (.cons (.bl _) (.cons (.bl _) .nil))
theorem dp_pair {K : PySem.W.Frag} {H : Hp} {t tb te : Addr} {e : List Int} (ht : H t = some (.tup [.ref tb, .ref te])) (hb : SqT K H tb []) (he : SqT K H te (e.map V.int)) : Dp K H (.ref t) (.tuple [.tuple [], .tuple (e.map PyData.int)]) :=
  .tup (.of ht) (.cons (.tup hb .nil) (.cons (.tup he (dpMap fun n _ => .int n)) .nil))
section
variable {P : Program} {w : World} {K : PySem.W.Frag} {mg : Str → Option Value} {base : Heap} {Cp C : Addr}
abbrev psAl : List Str := ["program", "name", "other", "other_name"]
abbrev sLaw : Stmt := top 48
theorem scLaw : FnScope ["_law_script", "_law_source_here", "_law_names_here", "_law_places", "_law_first", "_law_second", "_law_place", "_law_way", "_law_rows", "_law_program", "_law_unlike", "_law_flat", "_law_deep", "_law_told", "_law_pairs", "_law_k"] ["_law_script"] (defScope sLaw) := ⟨rfl, rfl, rfl, by decide +kernel, rfl, by decide +kernel, by decide +kernel⟩
set_option maxHeartbeats 4000000 in
theorem ok_law {f : Addr} {fd : FuncData} (F : Fun K "law" "law" sLaw f fd) (T : PgC K mg Cp) (mk : CalC P w K mg base CX0 5 "Program" Cp ["self", "procedures"] (spPgInit K Cp) [])
    (c_source : Cal P w K mg base CX0 1 "_law_source" ["_law_script"] (spSource K)) (c_draw : Cal P w K mg base CX0 1 "_law_draw" psD spDraw) (c_names : Cal P w K mg base CX0 3 "_law_names" ["_law_source_here", "_law_many"] spNames)
    (c_alike : Cal P w K mg base CX0 9 "alike" psAl (spAlikeG K Cp)) (c_parting : Cal P w K mg base CX0 8 "parting" psAl (spPartG K Cp)) (mRange : mg "range" = none) :
    FnOk P w K mg base CX0 10 f fd ["_law_script"] (spLaw K) := by
  refine F.ok scLaw (fun vs H Q E h => ?_) (fun cdv A outer s H vs Q E hr h => ?_)
  · obtain ⟨a, ns, rfl, _⟩ := h
    rfl
  · obtain ⟨a, ns, rfl, hs, hl, k⟩ := h
    have mLen := T.mLen
    have hr1 : Room 1 _ := hr.mono (by decide : 1 ≤ 9); have hr6 : Room 6 _ := hr.mono (by decide : 6 ≤ 9)
    have hr_source := hr1; have hr_draw := hr1; have hr_names : Room 3 _ := hr.mono (by decide : 3 ≤ 9)
    have hr_alike : Room 9 _ := hr; have hr_parting : Room 8 _ := hr.mono (by decide : 8 ≤ 9)
    refine ⟨_, (pss_cons (ps_set (i := 1) scLaw.nd rfl (by first | exact Or.inl rfl | exact Or.inr rfl) (pe_cal c_source hr_source pass0 (pa_cons (pv 0) pa_nil)))
      (pss_cons (ps_set (i := 2) scLaw.nd rfl (by first | exact Or.inl rfl | exact Or.inr rfl) (pe_cal c_names hr_names pass0 (pa_cons (pv 1) (pa_cons pe_int pa_nil))))
      (pss_cons (ps_set (i := 3) scLaw.nd rfl (by first | exact Or.inl rfl | exact Or.inr rfl) (pe_cal c_names hr_names pass0 (pa_cons (pv 1) (pa_cons (pe_op op_add pe_int (pe_cal c_draw hr_draw pass0 (pa_cons (pv 1) (pa_cons pe_int pa_nil)))) pa_nil))))
      (pss_cons (ps_set (i := 4) scLaw.nd rfl (by first | exact Or.inl rfl | exact Or.inr rfl) (pe_lc (own := [("_law_k", 15)]) (g := (gName 15)) (tt := tYes) rfl scLaw.nd (pi_range1 (by rfl) mRange (pa_cons (pe_op op_add pe_int (pe_cal c_draw hr_draw pass0 (pa_cons (pv 1) (pa_cons pe_int pa_nil)))) pa_nil)) (blkOk_by (own := [("_law_k", 15)]) (N := ["_law_script", "_law_source_here", "_law_names_here", "_law_places", "_law_first", "_law_second", "_law_place", "_law_way", "_law_rows", "_law_program", "_law_unlike", "_law_flat", "_law_deep", "_law_told", "_law_pairs", "_law_k"]) (sc := defScope sLaw) (by decide +kernel)) (fun _ _ _ _ _ => (pg_name (i := 15) scLaw.nd rfl (by first | exact Or.inl rfl | exact Or.inr rfl))) (fun _ _ _ _ _ => pts_nil) (fun _ _ _ _ _ => (pe_ix (ixl K) (pv 3) (pe_cal c_draw hr_draw pass0 (pa_cons (pv 1) (pa_cons (pe_callB (k_len K) (by rfl) mLen (by decide +kernel) (pa_cons (pv 3) pa_nil)) pa_nil))) (fun _ _ => rfl)))))
      (pss_cons (ps_set (i := 5) scLaw.nd rfl (by first | exact Or.inl rfl | exact Or.inr rfl) (pe_lst pa_nil))
      (pss_cons (ps_for PassesOwn.never rfl (pi_list (pv 4)) (pg_name (i := 6) scLaw.nd rfl (by first | exact Or.inl rfl | exact Or.inr rfl))
        (pss_one (ps_expr (pe_bm PySem.F.plainAttrs_list PySem.F.slot_list_insert PySem.F.type_list_insert mt_insert (pv 5) (pa_cons (pe_cal c_draw hr_draw pass0 (pa_cons (pv 1) (pa_cons (pe_op op_add (pe_callB (k_len K) (by rfl) mLen (by decide +kernel) (pa_cons (pv 5) pa_nil)) pe_int) pa_nil))) (pa_cons (pv 6) pa_nil))))))
      (C8.pss_cut (ps_if (pt_cmpR op_eq (pe_cal c_draw hr_draw pass0 (pa_cons (pv 1) (pa_cons pe_int pa_nil))) pe_int (nomark _))
        (pss_one (ps_asg (pe_ix (ixl K) (pv 3) (pe_cal c_draw hr_draw pass0 (pa_cons (pv 1) (pa_cons (pe_callB (k_len K) (by rfl) mLen (by decide +kernel) (pa_cons (pv 3) pa_nil)) pa_nil))) (fun _ _ => rfl)) (pg_sub (pv 5) (pe_cal c_draw hr_draw pass0 (pa_cons (pv 1) (pa_cons (pe_callB (k_len K) (by rfl) mLen (by decide +kernel) (pa_cons (pv 5) pa_nil)) pa_nil))) set_list))) pss_nil)
      (pss_cons (ps_set (i := 7) scLaw.nd rfl (by first | exact Or.inl rfl | exact Or.inr rfl) (pe_ix (ixl K) (pe_lst (pa_cons pe_str (pa_cons pe_str pa_nil))) (pe_cal c_draw hr_draw pass0 (pa_cons (pv 1) (pa_cons pe_int pa_nil))) (fun _ _ => rfl)))
      (pss_cons (ps_set (i := 8) scLaw.nd rfl (by first | exact Or.inl rfl | exact Or.inr rfl) (pe_lst (pa_cons (pe_tup (pa_cons (pe_ix (ixl K) (pv 2) pe_int (fun _ _ => rfl)) (pa_cons (pe_lc (own := [("_law_place", 6)]) (g := (gName 6)) (tt := tYes) rfl scLaw.nd (pi_list (pv 4)) (blkOk_by (own := [("_law_place", 6)]) (N := ["_law_script", "_law_source_here", "_law_names_here", "_law_places", "_law_first", "_law_second", "_law_place", "_law_way", "_law_rows", "_law_program", "_law_unlike", "_law_flat", "_law_deep", "_law_told", "_law_pairs", "_law_k"]) (sc := defScope sLaw) (by decide +kernel)) (fun _ _ _ _ _ => (pg_name (i := 6) scLaw.nd rfl (by first | exact Or.inl rfl | exact Or.inr rfl))) (fun _ _ _ _ _ => pts_nil) (fun _ _ _ _ _ => (pe_tup (pa_cons pe_str (pa_cons (pv 6) pa_nil))))) pa_nil))) (pa_cons (pe_tup (pa_cons (pe_ix (ixl K) (pv 2) pe_int (fun _ _ => rfl)) (pa_cons (pe_lc (own := [("_law_place", 6)]) (g := (gName 6)) (tt := tYes) rfl scLaw.nd (pi_list (pv 5)) (blkOk_by (own := [("_law_place", 6)]) (N := ["_law_script", "_law_source_here", "_law_names_here", "_law_places", "_law_first", "_law_second", "_law_place", "_law_way", "_law_rows", "_law_program", "_law_unlike", "_law_flat", "_law_deep", "_law_told", "_law_pairs", "_law_k"]) (sc := defScope sLaw) (by decide +kernel)) (fun _ _ _ _ _ => (pg_name (i := 6) scLaw.nd rfl (by first | exact Or.inl rfl | exact Or.inr rfl))) (fun _ _ _ _ _ => pts_nil) (fun _ _ _ _ _ => (pe_tup (pa_cons pe_str (pa_cons (pv 6) pa_nil))))) pa_nil))) pa_nil))))
      (pss_cons (ps_set (i := 8) scLaw.nd rfl (by first | exact Or.inl rfl | exact Or.inr rfl) (pe_op op_cat (pv 8) (pe_lst (pa_cons (pe_tup (pa_cons (pe_ix (ixl K) (pv 2) pe_int (fun _ _ => rfl)) (pa_cons (pe_lst (pa_cons (pe_tup (pa_cons (pv 7) (pa_cons (pe_ix (ixl K) (pv 2) pe_int (fun _ _ => rfl)) pa_nil))) pa_nil)) pa_nil))) (pa_cons (pe_tup (pa_cons (pe_ix (ixl K) (pv 2) pe_int (fun _ _ => rfl)) (pa_cons (pe_lst (pa_cons (pe_tup (pa_cons (pv 7) (pa_cons (pe_ix (ixl K) (pv 2) pe_int (fun _ _ => rfl)) pa_nil))) pa_nil)) pa_nil))) pa_nil)))))
      (pss_cons (ps_set (i := 9) scLaw.nd rfl (by first | exact Or.inl rfl | exact Or.inr rfl) (pe_mkc mk hr6 pass0 (pa_cons (pv 8) pa_nil)))
      (pss_cons (ps_setLc (i := 10) (own := [("_law_k", 15)]) (g := (gName 15)) rfl scLaw.nd rfl rfl (sw_true rfl rfl rfl (by decide +kernel)) (pi_range1 (by rfl) mRange (pa_cons (pe_callB (k_len K) (by rfl) mLen (by decide +kernel) (pa_cons (pv 4) pa_nil)) pa_nil)) (blkOk_by (own := [("_law_k", 15)]) (N := ["_law_script", "_law_source_here", "_law_names_here", "_law_places", "_law_first", "_law_second", "_law_place", "_law_way", "_law_rows", "_law_program", "_law_unlike", "_law_flat", "_law_deep", "_law_told", "_law_pairs", "_law_k"]) (sc := defScope sLaw) (by decide +kernel)) (fun _ _ _ _ _ => (pg_name (i := 15) scLaw.nd rfl (by first | exact Or.inl rfl | exact Or.inr rfl))) (fun _ _ _ _ _ => pts_one (pt_cmpR op_ne (pe_ix (ixl K) (pv 4) (pv 15) (fun _ _ => rfl)) (pe_ix (ixl K) (pv 5) (pv 15) (fun _ _ => rfl)) (nomark _))) (fun _ _ _ _ _ => (pv 15)))
      (pss_cons (ps_set (i := 11) scLaw.nd rfl (by first | exact Or.inl rfl | exact Or.inr rfl) (pe_ifExp (pt_cmpR op_eq (pe_callB (k_len K) (by rfl) mLen (by decide +kernel) (pa_cons (pv 10) pa_nil)) pe_int (nomark _)) pe_non (pe_tup (pa_cons (pe_tup pa_nil) (pa_cons (pe_tup (pa_cons (pe_ix (ixl K) (pv 10) pe_int (fun _ _ => rfl)) pa_nil)) pa_nil)))))
      (pss_cons (ps_set (i := 12) scLaw.nd rfl (by first | exact Or.inl rfl | exact Or.inr rfl) (pe_ifExp (pt_cmpR op_eq (pe_callB (k_len K) (by rfl) mLen (by decide +kernel) (pa_cons (pv 10) pa_nil)) pe_int (nomark _)) pe_non (pe_tup (pa_cons (pe_tup pa_nil) (pa_cons (pe_tup (pa_cons pe_int (pa_cons (pe_ix (ixl K) (pv 10) pe_int (fun _ _ => rfl)) pa_nil))) pa_nil)))))
      (pss_cons (ps_set (i := 13) scLaw.nd rfl (by first | exact Or.inl rfl | exact Or.inr rfl) (pe_lst (pa_cons (pe_cal c_parting hr_parting pass0 (pa_cons (pv 9) (pa_cons (pe_ix (ixl K) (pv 2) pe_int (fun _ _ => rfl)) (pa_cons (pv 9) (pa_cons (pe_ix (ixl K) (pv 2) pe_int (fun _ _ => rfl)) pa_nil))))) (pa_cons (pe_cal c_parting hr_parting pass0 (pa_cons (pv 9) (pa_cons (pe_ix (ixl K) (pv 2) pe_int (fun _ _ => rfl)) (pa_cons (pv 9) (pa_cons (pe_ix (ixl K) (pv 2) pe_int (fun _ _ => rfl)) pa_nil))))) pa_nil))))
      (pss_cons (ps_if (pt_cmpR (neD K hr) (pv 13) (pe_lst (pa_cons (pv 11) (pa_cons (pv 12) pa_nil))) (nomark _))
        (pss_one (ps_ret pe_bl)) pss_nil)
      (pss_cons (ps_set (i := 14) scLaw.nd rfl (by first | exact Or.inl rfl | exact Or.inr rfl) (pe_lst (pa_cons (pe_cal c_alike hr_alike pass0 (pa_cons (pv 9) (pa_cons (pe_ix (ixl K) (pv 2) pe_int (fun _ _ => rfl)) (pa_cons (pv 9) (pa_cons (pe_ix (ixl K) (pv 2) pe_int (fun _ _ => rfl)) pa_nil))))) (pa_cons (pe_cal c_alike hr_alike pass0 (pa_cons (pv 9) (pa_cons (pe_ix (ixl K) (pv 2) pe_int (fun _ _ => rfl)) (pa_cons (pv 9) (pa_cons (pe_ix (ixl K) (pv 2) pe_int (fun _ _ => rfl)) pa_nil))))) pa_nil))))
      (pss_one (ps_ret (pe_cmpR (eqD K hr) (pv 14) (pe_lst (pa_cons (pe_cmpR op_eq (pe_callB (k_len K) (by rfl) mLen (by decide +kernel) (pa_cons (pv 10) pa_nil)) pe_int (nomark _)) (pa_cons (pe_cmpR op_eq (pe_callB (k_len K) (by rfl) mLen (by decide +kernel) (pa_cons (pv 10) pa_nil)) pe_int (nomark _)) pa_nil))) (nomark _))))))))))))))))))))), ?_⟩
    refine ⟨_, rfl, a, ns, rfl, hs, hl, fun g H1 _ s1 S1 => ?_⟩
    refine ⟨_, rfl, g, 4, 900000000, rfl, by decide, S1.mono (by decide), fun nl nms H2 lns nd nm nnl h2 k2 S2 => ?_⟩
    refine ⟨_, rfl, _, rfl, g, 4, 890000000, rfl, by decide, by decide, S2.mono (by decide), fun v H3 v0 v1 k3 S3 => ⟨_, _, rfl, rfl, ?_⟩⟩
    obtain ⟨mp, em⟩ : ∃ m : Nat, 1 + v = (m : Int) := ⟨(1 + v).toNat, by omega⟩
    refine ⟨g, mp, 880000000, by show [V.ref g, V.int (1 + v)] = _; rw [em], by omega, S3.mono (by omega), fun pl ps H4 lps ndp nmp npl h4 k4 S4 => ?_⟩
    refine ⟨_, rfl, g, 6, 870000000, rfl, by decide, by decide, S4.mono (by decide), fun v2 H5 v20 v21 k5 S5 => ⟨_, _, rfl, rfl, ?_⟩⟩
    obtain ⟨mf, emf⟩ : ∃ m : Nat, 1 + v2 = (m : Int) := ⟨(1 + v2).toNat, by omega⟩
    have sz : (5000 : Nat) < sizeLine := by decide
    have hn3 := k3 _ _ (strs_ne S2 h2) h2
    have hn4 := k4 _ _ (strs_ne S3 hn3) hn3
    have hn5 := k5 _ _ (strs_ne S4 hn4) hn4
    have hp5 := k5 _ _ (strs_ne S4 h4) h4
    refine ⟨mf, by show [V.int (1 + v2)] = _; rw [emf], by omega, by omega, fun D hD => ?_⟩
    have Dg : D ≠ g := S5.ne hD
    refine lc_range (lo := 0) (n := mf) (fun i H' => ∃ fs : List Str, fs.length = i ∧ (∀ p ∈ fs, p ∈ ps) ∧ H' D = some (.lst (fs.map V.str)) ∧ Kp g H5 H' ∧ Src H' g (860000000 + (10 - i))) ⟨[], rfl, (by simp), upd_same, Kp.new hD, (S5.new hD).mono (by omega)⟩ ?_ ?_
    · rintro i H6 hi ⟨fs, lf, fin, h6, k6, S6⟩
      have hp6 := k6 _ _ (strs_ne S5 hp5) hp5
      refine ⟨rfl, yes_then ?_⟩
      refine ⟨_, rfl, _, rfl, _, rfl, pl, _, rfl, .inl (.of hp6), g, _, 860000000 + (10 - (i + 1)), rfl, by rw [List.length_map]; omega, by rw [List.length_map]; exact Nat.lt_trans (by omega : ((ps.length : Nat) : Int).natAbs < 17) (by decide), S6.mono (by omega), fun u H7 u0 u1 k7 S7 => ?_⟩
      rw [List.length_map] at u1
      obtain ⟨z, hz, ez⟩ := atI_str (zs := ps) u0 u1
      refine ⟨pl, _, u, _, rfl, rfl, .of (k7 _ _ (strs_ne S6 hp6) hp6), ez, _, k7 _ _ Dg h6, by rw [List.length_map]; omega, fs ++ [z], by rw [List.length_append, lf]; rfl, fun p hp => ?_, by rw [upd_same, List.map_append]; rfl, (k6.trans k7).mut hD, S7.put Dg⟩
      rcases List.mem_append.mp hp with q | q
      · exact fin p q
      · rw [List.mem_singleton.mp q]; exact hz
    rintro H6 ⟨fs, lf, fin, h6, k6, S6⟩
    have hn6 := k6 _ _ (strs_ne S5 hn5) hn5
    have hp6 := k6 _ _ (strs_ne S5 hp5) hp5
    -- the second row
    refine ⟨(by show 0 ≤ sizeLine; decide), fun EE hE => ?_⟩
    have Eg : EE ≠ g := S6.ne hE
    have ED : EE ≠ D := ne_none hE h6
    have sE := Same.new (o := .lst []) hE
    refine ⟨_, rfl, D, rfl, ⟨_, .of (sE _ _ h6)⟩, ?_⟩
    refine for_it walk_list (fun i σ H' => ∃ (ss : List Str) (v6 : Option V), σ = [some (.ref a), some (.ref g), some (.ref nl), some (.ref pl), some (.ref D), some (.ref EE), v6, none, none, none, none, none, none, none, none, none] ∧ ss.length = i ∧ (∀ p ∈ ss, p ∈ ps) ∧ H' EE = some (.lst (ss.map V.str)) ∧ Kp g H6 H' ∧ Src H' g (850000000 + (10 - i)))
      ⟨[], none, rfl, rfl, (by simp), upd_same, Kp.new hE, (S6.new hE).mono (by omega)⟩ (fun i σ H' _ q => by
        obtain ⟨_, _, _, _, _, _, kq, _⟩ := q
        exact .of (kq _ _ Dg h6)) ?_ ?_
    · rintro i x σ _ H7 hi ⟨ss, v6, rfl, lss, sin, h7, k7, S7⟩ ⟨rfl, hx⟩
      rw [List.getElem?_map] at hx
      obtain ⟨z, hz, rfl⟩ := Option.map_eq_some_iff.mp hx
      rw [List.length_map] at hi
      refine ⟨_, rfl, .inl ⟨rfl, _, .of h7⟩, _, rfl, _, rfl, EE, _, rfl, .inl (.of h7), _, _, rfl, rfl, g, _, 850000000 + (10 - (i + 1)), rfl, by omega, by rw [List.length_map]; exact Nat.lt_trans (by omega : (((ss.length : Nat) : Int) + 1).natAbs < 17) (by decide), S7.mono (by omega), fun at_ H8 w0 w1 k8 S8 => ?_⟩
      rw [List.length_map] at w1
      have h8 := k8 _ _ Eg h7
      refine ⟨_, rfl, EE, _, at_, _, rfl, rfl, h8, by rw [List.length_map]; omega, w0, by omega, ?_⟩
      refine ⟨ss.take at_.toNat ++ [z] ++ ss.drop at_.toNat, _, rfl, ?_, fun p hp => ?_, ?_, (k7.trans k8).mut hE, S8.put Eg⟩
      · rw [List.length_append, List.length_append, List.length_take, List.length_drop]
        show _ + 1 + _ = i + 1
        omega
      · rcases List.mem_append.mp hp with q | q
        · rcases List.mem_append.mp q with q | q
          · exact sin p (List.mem_of_mem_take q)
          · rw [List.mem_singleton.mp q]; exact fin z (List.mem_of_getElem? hz)
        · exact sin p (List.mem_of_mem_drop q)
      · rw [upd_same, List.map_append, List.map_append, List.map_take, List.map_drop]; rfl
    rintro σ H7 ⟨ss, v6, rfl, lss, sin, h7, k7, S7⟩
    rw [List.length_map, lf] at lss S7
    -- perhaps one of another place
    refine ⟨fun σ' H' => ∃ (ss : List Str), σ' = [some (.ref a), some (.ref g), some (.ref nl), some (.ref pl), some (.ref D), some (.ref EE), v6, none, none, none, none, none, none, none, none, none] ∧ ss.length = mf ∧ (∀ p ∈ ss, p ∈ ps) ∧ H' EE = some (.lst (ss.map V.str)) ∧ Kp g H6 H' ∧ Src H' g 840000000, ?_, ?_⟩
    · refine ⟨_, rfl, g, 4, 849999990, rfl, by decide, by decide, S7.mono (by omega), fun u H8 u0 u1 k8 S8 => ⟨rfl, _, rfl, ite2 (fun _ => ?_) fun _ => ⟨ss, rfl, lss, sin, k8 _ _ Eg h7, k7.trans k8, S8.mono (by omega)⟩⟩⟩
      have hp8 := (k7.trans k8) _ _ (strs_ne S6 hp6) hp6
      have h8 := k8 _ _ Eg h7
      refine ⟨_, rfl, _, rfl, _, rfl, pl, _, rfl, .inl (.of hp8), g, _, 849999980, rfl, by rw [List.length_map]; omega, by rw [List.length_map]; exact Nat.lt_trans (by omega : ((ps.length : Nat) : Int).natAbs < 17) (by decide), S8.mono (by omega), fun u3 H9 u30 u31 k9 S9 => ?_⟩
      rw [List.length_map] at u31
      obtain ⟨z, hz, ez⟩ := atI_str (zs := ps) u30 u31
      have h9 := k9 _ _ Eg h8
      refine ⟨pl, _, u3, _, rfl, rfl, .of (k9 _ _ (strs_ne S8 hp8) hp8), ez, ?_⟩
      refine ⟨_, rfl, _, rfl, _, rfl, EE, _, rfl, .inl (.of h9), g, _, 849999970, rfl, by rw [List.length_map]; omega, by rw [List.length_map]; exact Nat.lt_trans (by omega : ((ss.length : Nat) : Int).natAbs < 17) (by decide), S9.mono (by omega), fun u4 HA u40 u41 kA SA => ?_⟩
      rw [List.length_map] at u41
      obtain ⟨j, rfl⟩ : ∃ j : Nat, u4 = (j : Int) := ⟨u4.toNat, by omega⟩
      have hA := kA _ _ Eg h9
      refine ⟨EE, _, _, j, rfl, rfl, hA, ixN_of (by rw [List.length_map]; omega), ?_⟩
      refine ⟨ss.set j z, rfl, by rw [List.length_set]; exact lss, fun p hp => ?_, by rw [upd_same, List.map_set], ((k7.trans k8).trans (k9.trans kA)).mut hE, (SA.mono (by omega)).put Eg⟩
      rcases List.mem_or_eq_of_mem_set hp with q | q
      · exact sin p q
      · rw [q]; exact hz
    rintro σ' H8 ⟨ss, rfl, lss, sin, h8, k8, S8⟩
    have hd8 := k8 _ _ Dg h6
    have hn8 := k8 _ _ (strs_ne S6 hn6) hn6
    -- the way
    refine ⟨(by show 2 ≤ sizeLine; decide), fun l2 hl2 => ⟨_, rfl, g, 2, 830000000, rfl, by decide, by decide, (S8.mono (by decide)).new hl2, fun u5 H9 u50 u51 k9 S9 => ?_⟩⟩
    obtain ⟨way, hway, eway⟩ := atI_str (zs := calling) (v := u5) u50 (by show u5 < 2; omega)
    refine ⟨l2, _, u5, _, rfl, rfl, .of (k9 _ _ (S8.ne hl2) upd_same), eway, ?_⟩
    have k9 : Kp g H8 H9 := (Kp.new hl2).trans k9
    have hd9 := k9 _ _ Dg hd8
    have he9 := k9 _ _ Eg h8
    have hn9 := k9 _ _ (strs_ne S8 hn8) hn8
    obtain ⟨n0, n1, n2, n3, rfl⟩ : ∃ n0 n1 n2 n3, nms = [n0, n1, n2, n3] := by
      match nms, lns with
      | [n0, n1, n2, n3], _ => exact ⟨n0, n1, n2, n3, rfl⟩
    have lfs : fs.length ≤ 6 := by omega
    have lss6 : ss.length ≤ 6 := by omega
    -- a row of reads
    refine ⟨_, rfl, nl, _, (0 : Nat), _, rfl, rfl, .of hn9, atI_nat rfl, ?_⟩
    refine ⟨_, rfl, D, rfl, ⟨_, .of hd9⟩, fun L0 nL0 => ?_⟩
    refine lc_it walk_list (fun j H' => ∃ ts : List Addr, Same H9 H' ∧ H' L0 = some (.lst (ts.map V.ref)) ∧ StA H' ts ((fs.take j).map rdS) ∧ ts.length = j) ⟨[], Same.new nL0, upd_same, .nil, rfl⟩ (fun j H' _ q => .of (q.choose_spec.1 _ _ hd9)) ?_ ?_
    · rintro j x _ HA hj ⟨ts, sA, hA, st, lt⟩ ⟨rfl, hx⟩
      rw [List.getElem?_map] at hx
      obtain ⟨z, hz, rfl⟩ := Option.map_eq_some_iff.mp hx
      rw [List.length_map] at hj
      refine ⟨rfl, yes_then ?_⟩
      refine ⟨_, rfl, (by show 2 ≤ sizeLine; decide), fun t nt => ?_⟩
      have hA2 := (Same.new (o := .tup [.str "read", .str z]) nt) _ _ hA
      have pn : SameN (upd HA t (.tup [.str "read", .str z])) (upd (upd HA t (.tup [.str "read", .str z])) L0 (.lst (ts.map V.ref ++ [.ref t]))) := SameN.refl.put hA2
      refine ⟨_, hA2, by rw [List.length_map, lt]; omega, ts ++ [t], (sA.trans (Same.new nt)).mut nL0, by rw [upd_same, List.map_append]; rfl, ?_, by rw [List.length_append, lt]; rfl⟩
      rw [List.take_add_one, hz, Option.toList_some, List.map_append]
      exact paired_snoc ((st.same (Same.new nt)).sameN pn) (pn _ _ noL_tup upd_same)
    rintro HA ⟨ts0, sA, hA, st0, lt0⟩
    rw [List.length_map, List.take_length] at st0
    refine ⟨(by show 2 ≤ sizeLine; decide), fun t0 nt0 => ?_⟩
    have sB := Same.new (o := .tup [.str n0, .ref L0]) nt0
    have ht0 : (upd HA t0 (.tup [.str n0, .ref L0])) t0 = some (.tup [.str n0, .ref L0]) := upd_same
    generalize upd HA t0 (.tup [.str n0, .ref L0]) = HB at sB ht0
    have s9B := sA.trans sB
    have hLB := sB _ _ hA
    have stB0 := st0.same sB
    refine ⟨_, rfl, nl, _, (1 : Nat), _, rfl, rfl, .of (s9B _ _ hn9), atI_nat rfl, ?_⟩
    refine ⟨_, rfl, EE, rfl, ⟨_, .of (s9B _ _ he9)⟩, fun L1 nL1 => ?_⟩
    refine lc_it walk_list (fun j H' => ∃ ts : List Addr, Same HB H' ∧ H' L1 = some (.lst (ts.map V.ref)) ∧ StA H' ts ((ss.take j).map rdS) ∧ ts.length = j) ⟨[], Same.new nL1, upd_same, .nil, rfl⟩ (fun j H' _ q => .of (q.choose_spec.1 _ _ (s9B _ _ he9))) ?_ ?_
    · rintro j x _ HC hj ⟨ts, sC, hC, st, lt⟩ ⟨rfl, hx⟩
      rw [List.getElem?_map] at hx
      obtain ⟨z, hz, rfl⟩ := Option.map_eq_some_iff.mp hx
      rw [List.length_map] at hj
      refine ⟨rfl, yes_then ?_⟩
      refine ⟨_, rfl, (by show 2 ≤ sizeLine; decide), fun t nt => ?_⟩
      have hC2 := (Same.new (o := .tup [.str "read", .str z]) nt) _ _ hC
      have pn : SameN (upd HC t (.tup [.str "read", .str z])) (upd (upd HC t (.tup [.str "read", .str z])) L1 (.lst (ts.map V.ref ++ [.ref t]))) := SameN.refl.put hC2
      refine ⟨_, hC2, by rw [List.length_map, lt]; omega, ts ++ [t], (sC.trans (Same.new nt)).mut nL1, by rw [upd_same, List.map_append]; rfl, ?_, by rw [List.length_append, lt]; rfl⟩
      rw [List.take_add_one, hz, Option.toList_some, List.map_append]
      exact paired_snoc ((st.same (Same.new nt)).sameN pn) (pn _ _ noL_tup upd_same)
    rintro HC ⟨ts1, sC, hC, st1, lt1⟩
    rw [List.length_map, List.take_length] at st1
    refine ⟨(by show 2 ≤ sizeLine; decide), fun t1 nt1 => ⟨(by show 2 ≤ sizeLine; decide), fun R0 nR0 => ?_⟩⟩
    have sD := (Same.new (o := .tup [.str n1, .ref L1]) nt1).trans (Same.new (o := .lst [.ref t0, .ref t1]) nR0)
    have ht1 : (upd (upd HC t1 (.tup [.str n1, .ref L1])) R0 (.lst [.ref t0, .ref t1])) t1 = some (.tup [.str n1, .ref L1]) := (Same.new nR0) _ _ upd_same
    have hR0 : (upd (upd HC t1 (.tup [.str n1, .ref L1])) R0 (.lst [.ref t0, .ref t1])) R0 = some (.lst [.ref t0, .ref t1]) := upd_same
    generalize upd (upd HC t1 (.tup [.str n1, .ref L1])) R0 (.lst [.ref t0, .ref t1]) = HD at sD ht1 hR0
    have sBD := sC.trans sD
    have s9D := s9B.trans sBD
    have ht0D := sBD _ _ ht0
    have hL0D := sBD _ _ hLB
    have st0D := stB0.same sBD
    have hL1D := sD _ _ hC
    have st1D := st1.same sD
    have hnD := s9D _ _ hn9
    -- the two that call them
    refine ⟨_, rfl, _, rfl, nl, _, (2 : Nat), _, rfl, rfl, .of hnD, atI_nat rfl, ?_⟩
    refine ⟨_, rfl, _, rfl, nl, _, (0 : Nat), _, rfl, rfl, .of hnD, atI_nat rfl, (by show 2 ≤ sizeLine; decide), fun s2 ns2 => ⟨(by show 1 ≤ sizeLine; decide), fun L2 nL2 => ⟨(by show 2 ≤ sizeLine; decide), fun t2 nt2 => ?_⟩⟩⟩
    have sE := ((Same.new (o := .tup [.str way, .str n0]) ns2).trans (Same.new (o := .lst [.ref s2]) nL2)).trans (Same.new (o := .tup [.str n2, .ref L2]) nt2)
    have hs2 : (upd (upd (upd HD s2 (.tup [.str way, .str n0])) L2 (.lst [.ref s2])) t2 (.tup [.str n2, .ref L2])) s2 = some (.tup [.str way, .str n0]) := ((Same.new nL2).trans (Same.new nt2)) _ _ upd_same
    have hL2 : (upd (upd (upd HD s2 (.tup [.str way, .str n0])) L2 (.lst [.ref s2])) t2 (.tup [.str n2, .ref L2])) L2 = some (.lst [.ref s2]) := (Same.new nt2) _ _ upd_same
    have ht2 : (upd (upd (upd HD s2 (.tup [.str way, .str n0])) L2 (.lst [.ref s2])) t2 (.tup [.str n2, .ref L2])) t2 = some (.tup [.str n2, .ref L2]) := upd_same
    generalize upd (upd (upd HD s2 (.tup [.str way, .str n0])) L2 (.lst [.ref s2])) t2 (.tup [.str n2, .ref L2]) = HE at sE hs2 hL2 ht2
    have hnE := sE _ _ hnD
    refine ⟨_, rfl, nl, _, (3 : Nat), _, rfl, rfl, .of hnE, atI_nat rfl, _, rfl, _, rfl, nl, _, (1 : Nat), _, rfl, rfl, .of hnE, atI_nat rfl, (by show 2 ≤ sizeLine; decide), fun s3 ns3 => ⟨(by show 1 ≤ sizeLine; decide), fun L3 nL3 => ⟨(by show 2 ≤ sizeLine; decide), fun t3 nt3 => ⟨(by show 2 ≤ sizeLine; decide), fun R1 nR1 => ?_⟩⟩⟩⟩
    have sF := (((Same.new (o := .tup [.str way, .str n1]) ns3).trans (Same.new (o := .lst [.ref s3]) nL3)).trans (Same.new (o := .tup [.str n3, .ref L3]) nt3)).trans (Same.new (o := .lst [.ref t2, .ref t3]) nR1)
    have hs3 : (upd (upd (upd (upd HE s3 (.tup [.str way, .str n1])) L3 (.lst [.ref s3])) t3 (.tup [.str n3, .ref L3])) R1 (.lst [.ref t2, .ref t3])) s3 = some (.tup [.str way, .str n1]) := (((Same.new nL3).trans (Same.new nt3)).trans (Same.new nR1)) _ _ upd_same
    have hL3 : (upd (upd (upd (upd HE s3 (.tup [.str way, .str n1])) L3 (.lst [.ref s3])) t3 (.tup [.str n3, .ref L3])) R1 (.lst [.ref t2, .ref t3])) L3 = some (.lst [.ref s3]) := ((Same.new nt3).trans (Same.new nR1)) _ _ upd_same
    have ht3 : (upd (upd (upd (upd HE s3 (.tup [.str way, .str n1])) L3 (.lst [.ref s3])) t3 (.tup [.str n3, .ref L3])) R1 (.lst [.ref t2, .ref t3])) t3 = some (.tup [.str n3, .ref L3]) := (Same.new nR1) _ _ upd_same
    have hR1 : (upd (upd (upd (upd HE s3 (.tup [.str way, .str n1])) L3 (.lst [.ref s3])) t3 (.tup [.str n3, .ref L3])) R1 (.lst [.ref t2, .ref t3])) R1 = some (.lst [.ref t2, .ref t3]) := upd_same
    generalize upd (upd (upd (upd HE s3 (.tup [.str way, .str n1])) L3 (.lst [.ref s3])) t3 (.tup [.str n3, .ref L3])) R1 (.lst [.ref t2, .ref t3]) = HF at sF hs3 hL3 ht3 hR1
    have sDF := sE.trans sF
    refine ⟨R0, R1, _, _, rfl, rfl, sDF _ _ hR0, hR1, (by show 2 + 2 ≤ sizeLine; decide), fun RR nRR => ?_⟩
    have sG := Same.new (o := .lst ([.ref t0, .ref t1] ++ [.ref t2, .ref t3])) nRR
    have hRR : (upd HF RR (.lst ([.ref t0, .ref t1] ++ [.ref t2, .ref t3]))) RR = some (.lst ([t0, t1, t2, t3].map V.ref)) := upd_same
    generalize upd HF RR (.lst ([.ref t0, .ref t1] ++ [.ref t2, .ref t3])) = HG at sG hRR
    have sDG := sDF.trans sG
    have sFG := sF.trans sG
    have s9G := s9D.trans sDG
    -- the program
    obtain ⟨rs, hrs⟩ : ∃ rs : List Pr, rs = [⟨n0, L0, ts0, fs.map rdS⟩, ⟨n1, L1, ts1, ss.map rdS⟩, ⟨n2, L2, [s2], [(way, n0)]⟩, ⟨n3, L3, [s3], [(way, n1)]⟩] := ⟨_, rfl⟩
    have LG : Paired (PrL HG) [t0, t1, t2, t3] rs := by
      rw [hrs]
      exact .cons ⟨sDG _ _ ht0D, sDG _ _ hL0D, st0D.same sDG⟩ (.cons ⟨sDG _ _ ht1, sDG _ _ hL1D, st1D.same sDG⟩ (.cons ⟨sFG _ _ ht2, sFG _ _ hL2, .cons (sFG _ _ hs2) .nil⟩ (.cons ⟨sG _ _ ht3, sG _ _ hL3, .cons (sG _ _ hs3) .nil⟩ .nil)))
    have Fo : Four rs n0 n1 n2 n3 fs ss way := ⟨by rw [hrs]; rfl, hway⟩
    have nmI : ∀ z ∈ [n0, n1, n2, n3], IsName z := fun z hz => (nm z hz).1
    have gr : ∀ p, p ∈ ps → GoodS [n0, n1, n2, n3] (rdS p) := fun p hp => ⟨stepB_of (show ("read" : Str) ∈ kinds by decide +kernel) (nmp p hp).1, fun h => absurd h (show ¬ ("read" : Str) ∈ calling by decide +kernel)⟩
    have gc : ∀ z, z ∈ [n0, n1, n2, n3] → GoodS [n0, n1, n2, n3] (way, z) := fun z hz => ⟨stepB_of (calling_kinds way hway) (nmI z hz), fun _ => hz⟩
    have R : RightP rs := by
      refine rightP_of (ns := [n0, n1, n2, n3]) (by rw [hrs]; rfl) nd (by show 4 ≤ 16; decide) (by simp) nmI fun r hr => ?_
      rw [hrs] at hr
      simp only [List.mem_cons, List.not_mem_nil, or_false] at hr
      rcases hr with rfl | rfl | rfl | rfl
      · refine ⟨by show (fs.map rdS).length ≤ 12; rw [List.length_map]; omega, fun s hs => ?_⟩
        obtain ⟨p, hp, rfl⟩ := List.mem_map.mp hs
        exact gr p (fin p hp)
      · refine ⟨by show (ss.map rdS).length ≤ 12; rw [List.length_map]; omega, fun s hs => ?_⟩
        obtain ⟨p, hp, rfl⟩ := List.mem_map.mp hs
        exact gr p (sin p hp)
      · exact ⟨by show 1 ≤ 12; decide, fun s hs => by rw [List.mem_singleton.mp hs]; exact gc n0 (by simp)⟩
      · exact ⟨by show 1 ≤ 12; decide, fun s hs => by rw [List.mem_singleton.mp hs]; exact gc n1 (by simp)⟩
    refine ⟨_, rfl, ?_⟩
    intro p dx np nd' _
    refine ⟨p, dx, RR, [t0, t1, t2, t3], rs, rfl, upd_same, .inl (SameL (ns_grow np nd') (.of hRR)), paired_same LG (fun _ _ z => (z.prA (K := K)).same (ns_grow np nd')), R, fun HP Pg kp => ⟨rfl, ?_⟩⟩
    have s9P := s9G.trans (pg_same np nd' kp)
    have hdP := s9P _ _ hd9
    have heP := s9P _ _ he9
    have hnP := s9P _ _ hn9
    -- the unlike ones
    refine ⟨_, rfl, D, _, rfl, .inl (.of hdP), (fs.length : Nat), by rw [List.length_map], by omega, by omega, fun U nU => ?_⟩
    refine lc_range (lo := 0) (n := fs.length) (fun i H' => ∃ l : List Nat, l = (List.range i).filter (fun k => !decide (fs[k]? = ss[k]?)) ∧ H' U = some (.lst (l.map fun k => V.int (k : Nat))) ∧ Same HP H') ⟨[], rfl, upd_same, Same.new nU⟩ ?_ ?_
    · rintro i HQ hi ⟨l, hl', hU, sQ⟩
      rw [Int.zero_add]
      have g1 := List.getElem?_eq_getElem hi
      have g2 := List.getElem?_eq_getElem (show i < ss.length by omega)
      refine ⟨rfl, _, rfl, _, rfl, D, _, (i : Nat), _, rfl, rfl, .of (sQ _ _ hdP), atI_nat (by rw [List.getElem?_map, g1]; rfl), _, rfl, _, rfl, EE, _, (i : Nat), _, rfl, rfl, .of (sQ _ _ heP), atI_nat (by rw [List.getElem?_map, g2]; rfl), rfl, _, rfl, ?_⟩
      have er : (List.range (i + 1)).filter (fun k => !decide (fs[k]? = ss[k]?)) = l ++ (if fs[i]? = ss[i]? then [] else [i]) := by
        rw [List.range_succ, List.filter_append, ← hl']
        by_cases e : fs[i]? = ss[i]?
        · rw [if_pos e, List.filter_cons_of_neg (by rw [decide_eq_true e]; decide), List.filter_nil]
        · rw [if_neg e, List.filter_cons_of_pos (by rw [decide_eq_false e]; decide), List.filter_nil]
      by_cases e : fs[i]? = ss[i]?
      · rw [if_pos e, List.append_nil] at er
        have e' : V.str fs[i] = V.str ss[i] := by rw [g1, g2] at e; rw [Option.some.inj e]
        rw [decide_eq_true e']
        exact iteF ⟨l, er.symm, hU, sQ⟩
      · rw [if_neg e] at er
        have e' : ¬ V.str fs[i] = V.str ss[i] := fun q => e (by rw [g1, g2, V.str.inj q])
        rw [decide_eq_false e']
        refine iteT ⟨_, rfl, _, hU, ?_, l ++ [i], er.symm, by rw [upd_same, List.map_append]; rfl, sQ.mut nU⟩
        have ll : l.length ≤ i := by rw [hl']; exact Nat.le_trans (List.length_filter_le _ _) (by rw [List.length_range]; exact Nat.le_refl _)
        rw [List.length_map]; omega
    rintro HQ ⟨l, hl', hU, sQ⟩
    have hun : l = unl fs ss := hl'
    have hnQ := sQ _ _ hnP
    have PQ := Pg.same sQ
    have PQs : ∀ {H'}, Same HQ H' → Prg K Cp H' p rs := fun s => PQ.same s
    have nQs : ∀ {H'}, Same HQ H' → SqL K H' nl ([n0, n1, n2, n3].map V.str) := fun s => .of (s _ _ hnQ)
    have i0 : n0 ∈ rs.map Pr.name := by rw [Fo.names]; simp
    have i1 : n1 ∈ rs.map Pr.name := by rw [Fo.names]; simp
    have i2 : n2 ∈ rs.map Pr.name := by rw [Fo.names]; simp
    have i3 : n3 ∈ rs.map Pr.name := by rw [Fo.names]; simp
    have rf := reads_four Fo
    cases l with
    | nil =>
      have same := Fo.same R (unl_nil (by omega) hun.symm)
      refine ⟨_, rfl, U, _, rfl, .inl (.of hU), rfl, _, rfl, ite2 (fun _ => ?_) fun e => absurd (decide_eq_true rfl) e⟩
      refine ⟨_, rfl, U, _, rfl, .inl (.of hU), rfl, _, rfl, ite2 (fun _ => ?_) fun e => absurd (decide_eq_true rfl) e⟩
      refine ⟨_, rfl, _, rfl, nl, _, (0 : Nat), _, rfl, rfl, nQs (Same.refl _), atI_nat rfl, _, rfl, _, rfl, nl, _, (1 : Nat), _, rfl, rfl, nQs (Same.refl _), atI_nat rfl, p, p, rs, rs, n0, n1, rfl, PQ, PQ, i0, i1, fun ms hm => ⟨fun _ HR sR => ?_, fun br e ee => by rw [(same ms).1] at ee; cases ee⟩⟩
      refine ⟨_, rfl, _, rfl, nl, _, (2 : Nat), _, rfl, rfl, nQs sR, atI_nat rfl, _, rfl, _, rfl, nl, _, (3 : Nat), _, rfl, rfl, nQs sR, atI_nat rfl, p, p, rs, rs, n2, n3, rfl, PQs sR, PQs sR, i2, i3, fun ms hm => ⟨fun _ HS sS => ?_, fun br e ee => by rw [(same ms).2.1] at ee; cases ee⟩⟩
      have sQS := sR.trans sS
      refine ⟨(by show 2 ≤ sizeLine; decide), fun LT nLT => ⟨_, rfl, _, rfl, _, rfl, (by show 2 ≤ sizeLine; decide), fun LU nLU => ⟨_, _, dp_N ((Same.new nLU) _ _ upd_same), dp_N upd_same, sh_N, sh_N, _, rfl, ?_⟩⟩⟩
      rw [eqv_N]
      have sQT := (sQS.trans (Same.new (o := .lst [.non, .non]) nLT)).trans (Same.new (o := .lst [.non, .non]) nLU)
      refine iteF ?_
      refine ⟨_, rfl, _, rfl, nl, _, (0 : Nat), _, rfl, rfl, nQs sQT, atI_nat rfl, _, rfl, _, rfl, nl, _, (1 : Nat), _, rfl, rfl, nQs sQT, atI_nat rfl, p, p, rs, rs, n0, n1, rfl, PQs sQT, PQs sQT, i0, i1, fun ms hm HV sV => ?_⟩
      rw [(same ms).1]
      have sQV := sQT.trans sV
      refine ⟨_, rfl, _, rfl, nl, _, (3 : Nat), _, rfl, rfl, nQs sQV, atI_nat rfl, _, rfl, _, rfl, nl, _, (2 : Nat), _, rfl, rfl, nQs sQV, atI_nat rfl, p, p, rs, rs, n3, n2, rfl, PQs sQV, PQs sQV, i3, i2, fun ms hm HW sW => ?_⟩
      rw [(same ms).2.2]
      have sQW := sQV.trans sW
      refine ⟨(by show 2 ≤ sizeLine; decide), fun LX nLX => ⟨_, rfl, _, rfl, U, _, rfl, .inl (.of ((Same.new nLX) _ _ (sQW _ _ hU))), rfl, _, rfl, U, _, rfl, .inl (.of ((Same.new nLX) _ _ (sQW _ _ hU))), rfl, (by show 2 ≤ sizeLine; decide), fun LY nLY => ?_⟩⟩
      refine ⟨_, _, dp_B (b := true) ((Same.new nLY) _ _ upd_same), dp_B (b := true) upd_same, sh_B _, sh_B _, ?_⟩
      rw [eqv_B]
      exact k _
    | cons k0 t =>
      have hun := hun.symm
      have hU0 : HQ U = some (.lst (V.int (k0 : Nat) :: t.map fun k => V.int (k : Nat))) := hU
      have unlike : ∀ ms, PlOf rs rs ms → partP rs n0 rs n1 ms = some ([], [(k0 : Int)]) ∧ partP rs n2 rs n3 ms = some ([], [0, (k0 : Int)]) ∧ partP rs n3 rs n2 ms ≠ none := fun ms hm =>
        Fo.flat R (by omega) (fun q hq => (hm.2 q).mpr (.inl (rf.1 q hq))) (fun q hq => (hm.2 q).mpr (.inl (rf.2 q hq))) hun
      have ne0 : ∀ {n : Int}, n = ((t.length + 1 : Nat) : Int) → ¬ n = 0 := fun h => by omega
      have lU : (((V.int (k0 : Nat) :: t.map fun k => V.int (k : Nat)).length : Nat) : Int) = ((t.length + 1 : Nat) : Int) := by rw [List.length_cons, List.length_map]
      refine ⟨_, rfl, U, _, rfl, .inl (.of hU0), rfl, _, rfl, ite2 (fun e => absurd (V.int.inj (of_decide_eq_true e)) (ne0 lU)) fun _ => ?_⟩
      refine ⟨(by show 0 ≤ sizeLine; decide), fun a1 na1 => ⟨_, rfl, U, _, (0 : Nat), _, rfl, rfl, .of ((Same.new na1) _ _ hU0), atI_nat rfl, (by show 1 ≤ sizeLine; decide), fun a2 na2 => ⟨(by show 2 ≤ sizeLine; decide), fun a3 na3 => ?_⟩⟩⟩
      have sF1 := ((Same.new (o := .tup []) na1).trans (Same.new (o := .tup [.int (k0 : Nat)]) na2)).trans (Same.new (o := .tup [.ref a1, .ref a2]) na3)
      have h1 : (upd (upd (upd HQ a1 (.tup [])) a2 (.tup [.int (k0 : Nat)])) a3 (.tup [.ref a1, .ref a2])) a1 = some (.tup []) := ((Same.new na2).trans (Same.new na3)) _ _ upd_same
      have h2' : (upd (upd (upd HQ a1 (.tup [])) a2 (.tup [.int (k0 : Nat)])) a3 (.tup [.ref a1, .ref a2])) a2 = some (.tup [.int (k0 : Nat)]) := (Same.new na3) _ _ upd_same
      have h3' : (upd (upd (upd HQ a1 (.tup [])) a2 (.tup [.int (k0 : Nat)])) a3 (.tup [.ref a1, .ref a2])) a3 = some (.tup [.ref a1, .ref a2]) := upd_same
      generalize upd (upd (upd HQ a1 (.tup [])) a2 (.tup [.int (k0 : Nat)])) a3 (.tup [.ref a1, .ref a2]) = HX at sF1 h1 h2' h3'
      refine ⟨_, rfl, U, _, rfl, .inl (.of (sF1 _ _ hU0)), rfl, _, rfl, ite2 (fun e => absurd (V.int.inj (of_decide_eq_true e)) (ne0 lU)) fun _ => ?_⟩
      refine ⟨(by show 0 ≤ sizeLine; decide), fun b1 nb1 => ⟨_, rfl, U, _, (0 : Nat), _, rfl, rfl, .of ((Same.new nb1) _ _ (sF1 _ _ hU0)), atI_nat rfl, (by show 2 ≤ sizeLine; decide), fun b2 nb2 => ⟨(by show 2 ≤ sizeLine; decide), fun b3 nb3 => ?_⟩⟩⟩
      have sF2 := ((Same.new (o := .tup []) nb1).trans (Same.new (o := .tup [.int 0, .int (k0 : Nat)]) nb2)).trans (Same.new (o := .tup [.ref b1, .ref b2]) nb3)
      have g1 : (upd (upd (upd HX b1 (.tup [])) b2 (.tup [.int 0, .int (k0 : Nat)])) b3 (.tup [.ref b1, .ref b2])) b1 = some (.tup []) := ((Same.new nb2).trans (Same.new nb3)) _ _ upd_same
      have g2 : (upd (upd (upd HX b1 (.tup [])) b2 (.tup [.int 0, .int (k0 : Nat)])) b3 (.tup [.ref b1, .ref b2])) b2 = some (.tup [.int 0, .int (k0 : Nat)]) := (Same.new nb3) _ _ upd_same
      have g3 : (upd (upd (upd HX b1 (.tup [])) b2 (.tup [.int 0, .int (k0 : Nat)])) b3 (.tup [.ref b1, .ref b2])) b3 = some (.tup [.ref b1, .ref b2]) := upd_same
      generalize upd (upd (upd HX b1 (.tup [])) b2 (.tup [.int 0, .int (k0 : Nat)])) b3 (.tup [.ref b1, .ref b2]) = HY at sF2 g1 g2 g3
      have sQY := sF1.trans sF2
      have dflat : ∀ {H'}, Same HY H' → Dp K H' (.ref a3) (dF (k0 : Nat)) := fun s => dp_pair (e := [((k0 : Nat) : Int)]) (s _ _ (sF2 _ _ h3')) (.of (s _ _ (sF2 _ _ h1))) (.of (s _ _ (sF2 _ _ h2')))
      have ddeep : ∀ {H'}, Same HY H' → Dp K H' (.ref b3) (dG (k0 : Nat)) := fun s => dp_pair (e := [0, ((k0 : Nat) : Int)]) (s _ _ g3) (.of (s _ _ g1)) (.of (s _ _ g2))
      refine ⟨_, rfl, _, rfl, nl, _, (0 : Nat), _, rfl, rfl, nQs sQY, atI_nat rfl, _, rfl, _, rfl, nl, _, (1 : Nat), _, rfl, rfl, nQs sQY, atI_nat rfl, p, p, rs, rs, n0, n1, rfl, PQs sQY, PQs sQY, i0, i1, fun ms hm => ⟨fun ee => (by rw [(unlike ms hm).1] at ee; cases ee), fun br e ee tt tb te HR sR htt htb hte => ?_⟩⟩
      rw [(unlike ms hm).1] at ee
      cases ee
      have sQR := sQY.trans sR
      refine ⟨_, rfl, _, rfl, nl, _, (2 : Nat), _, rfl, rfl, nQs sQR, atI_nat rfl, _, rfl, _, rfl, nl, _, (3 : Nat), _, rfl, rfl, nQs sQR, atI_nat rfl, p, p, rs, rs, n2, n3, rfl, PQs sQR, PQs sQR, i2, i3, fun ms hm => ⟨fun ee => (by rw [(unlike ms hm).2.1] at ee; cases ee), fun br e ee tt2 tb2 te2 HS sS htt2 htb2 hte2 => ?_⟩⟩
      rw [(unlike ms hm).2.1] at ee
      cases ee
      have sYS := sR.trans sS
      have sQS := sQY.trans sYS
      refine ⟨(by show 2 ≤ sizeLine; decide), fun LT nLT => ⟨_, rfl, _, rfl, _, rfl, (by show 2 ≤ sizeLine; decide), fun LU nLU => ?_⟩⟩
      have sT2 := (Same.new (o := .lst [.ref tt, .ref tt2]) nLT).trans (Same.new (o := .lst [.ref a3, .ref b3]) nLU)
      refine ⟨.list [dF (k0 : Nat), dG (k0 : Nat)], .list [dF (k0 : Nat), dG (k0 : Nat)], .lst (.of ((Same.new nLU) _ _ upd_same)) (.cons ?_ (.cons ?_ .nil)), .lst (.of upd_same) (.cons (dflat (sYS.trans sT2)) (.cons (ddeep (sYS.trans sT2)) .nil)), sh_FG _, sh_FG _, _, rfl, ?_⟩
      · have sx := sS.trans sT2
        exact dp_pair (e := [((k0 : Nat) : Int)]) (sx _ _ htt) (sx.tup htb) (sx.tup hte)
      · exact dp_pair (e := [0, ((k0 : Nat) : Int)]) (sT2 _ _ htt2) (sT2.tup htb2) (sT2.tup hte2)
      rw [eqv_FG]
      have sQT := sQS.trans sT2
      refine iteF ?_
      refine ⟨_, rfl, _, rfl, nl, _, (0 : Nat), _, rfl, rfl, nQs sQT, atI_nat rfl, _, rfl, _, rfl, nl, _, (1 : Nat), _, rfl, rfl, nQs sQT, atI_nat rfl, p, p, rs, rs, n0, n1, rfl, PQs sQT, PQs sQT, i0, i1, fun ms hm HV sV => ?_⟩
      rw [(unlike ms hm).1]
      have sQV := sQT.trans sV
      refine ⟨_, rfl, _, rfl, nl, _, (3 : Nat), _, rfl, rfl, nQs sQV, atI_nat rfl, _, rfl, _, rfl, nl, _, (2 : Nat), _, rfl, rfl, nQs sQV, atI_nat rfl, p, p, rs, rs, n3, n2, rfl, PQs sQV, PQs sQV, i3, i2, fun ms hm HW sW => ?_⟩
      have en : (partP rs n3 rs n2 ms).isNone = false := by
        cases e : partP rs n3 rs n2 ms with
        | none => exact absurd e (unlike ms hm).2.2
        | some _ => rfl
      rw [en]
      have sQW := sQV.trans sW
      refine ⟨(by show 2 ≤ sizeLine; decide), fun LX nLX => ⟨_, rfl, _, rfl, U, _, rfl, .inl (.of ((Same.new nLX) _ _ (sQW _ _ hU0))), rfl, _, rfl, U, _, rfl, .inl (.of ((Same.new nLX) _ _ (sQW _ _ hU0))), rfl, (by show 2 ≤ sizeLine; decide), fun LY nLY => ?_⟩⟩
      have ef : decide (V.int (((V.int (k0 : Nat) :: t.map fun k => V.int (k : Nat)).length : Nat) : Int) = V.int 0) = false := decide_eq_false fun e => ne0 lU (V.int.inj e)
      refine ⟨_, _, dp_B (b := false) ((Same.new nLY) _ _ upd_same), dp_B (b := false) (by rw [upd_same, ef]), sh_B _, sh_B _, ?_⟩
      rw [eqv_B]
      exact k _
end
end Mf
namespace Mf
open PySem L2
theorem MetF.calC {P : Program} {w : World} {K : PySem.W.Frag} {mg : Str → Option Value} {base : Heap} {CX : CXT} {k : Nat} {x qual : Str} {st : Stmt} {f C : Addr} {ps : List Str} {sp : Sp} (D : MetF K C "__init__" qual st f) (mk : PySem.W.makesIn K C = true) (kc : PySem.W.keepIn K (.ref C) = true) (m : mg x = some (.ref C)) (hb : BindP "__init__" qual st ps)
    (ok : ∀ fd, Fun K "__init__" qual st f fd → FnOk P w K mg base CX k f fd ps sp) : CalC P w K mg base CX k x C ps sp [] := by
  obtain ⟨oc, od, sl, kV, dc, pm, an, cd, ct, a, l, c, q, i, n⟩ := D.ex
  have F := fun_mk (st := st) l c q
  exact ⟨⟨f, _, [], ⟨mk, a, i, kc⟩, ok _ F, m, F.binds hb, .nil⟩⟩
set_option maxHeartbeats 4000000 in
theorem all_mk {l : PySem.W.OpenLaw} {w : World} {K : PySem.W.Frag} {h : Heap} {mg : Str → Option Value} {fa : Addr} (X : K.In h) (G : h.Ns mainGlobals mg) (hfa : mg "law" = some (.ref fa))
    {Cn Cp CS fICn tDCn t0Cn fCneq fCnle fCnor fCncontains fICp fCpeq fCpgetitem fCpcontains fCplen fICS fCSfails fCSworld_rows fDIs_name fDIs_step fDIs_body fDChecked_bodies fDCheck_callees fDPlaces fDSource fDDraw fDName fDNames fDCheck_procedure fDChecked_procedures fDRequiring_paths fDItem fDRows_of_all fDItem_at fDDifference fDParting fDAlike fDLaw fEPaths_from tDEPaths_from t0EPaths_from fGBreaks kDGBreaks t0GBreaks fNDifference_path tDNDifference_path xKINDS xCALLING_KINDS xREQUIRING_KINDS xGAP xMISSING : Addr}
    {ocCn : Value} {odCn : Option Addr} {slCn : Array (Option Value)} {kVCn dcCn pmCn : Value} {anCn : Option Addr} {cdCn cuCn : Value} {o1Cn o2Cn : Obj} {itsCn : List Value} {n1Cn n2Cn : Nat}
    {ocCneq : Value} {odCneq : Option Addr} {slCneq : Array (Option Value)} {kVCneq dcCneq pmCneq : Value} {anCneq : Option Addr} {cdCneq ctCneq : Value}
    {ocCnle : Value} {odCnle : Option Addr} {slCnle : Array (Option Value)} {kVCnle dcCnle pmCnle : Value} {anCnle : Option Addr} {cdCnle ctCnle : Value}
    {ocCnor : Value} {odCnor : Option Addr} {slCnor : Array (Option Value)} {kVCnor dcCnor pmCnor : Value} {anCnor : Option Addr} {cdCnor ctCnor : Value}
    {ocCncontains : Value} {odCncontains : Option Addr} {slCncontains : Array (Option Value)} {kVCncontains dcCncontains pmCncontains : Value} {anCncontains : Option Addr} {cdCncontains ctCncontains : Value}
    {ocICp : Value} {odICp : Option Addr} {slICp : Array (Option Value)} {kVICp dcICp pmICp : Value} {anICp : Option Addr} {cdICp ctICp : Value}
    {ocCpeq : Value} {odCpeq : Option Addr} {slCpeq : Array (Option Value)} {kVCpeq dcCpeq pmCpeq : Value} {anCpeq : Option Addr} {cdCpeq ctCpeq : Value}
    {ocCpgetitem : Value} {odCpgetitem : Option Addr} {slCpgetitem : Array (Option Value)} {kVCpgetitem dcCpgetitem pmCpgetitem : Value} {anCpgetitem : Option Addr} {cdCpgetitem ctCpgetitem : Value}
    {ocCpcontains : Value} {odCpcontains : Option Addr} {slCpcontains : Array (Option Value)} {kVCpcontains dcCpcontains pmCpcontains : Value} {anCpcontains : Option Addr} {cdCpcontains ctCpcontains : Value}
    {ocCplen : Value} {odCplen : Option Addr} {slCplen : Array (Option Value)} {kVCplen dcCplen pmCplen : Value} {anCplen : Option Addr} {cdCplen ctCplen : Value}
    {ocICS : Value} {odICS : Option Addr} {slICS : Array (Option Value)} {kVICS dcICS pmICS : Value} {anICS : Option Addr} {cdICS ctICS : Value}
    {ocCSfails : Value} {odCSfails : Option Addr} {slCSfails : Array (Option Value)} {kVCSfails dcCSfails pmCSfails : Value} {anCSfails : Option Addr} {cdCSfails ctCSfails : Value}
    {ocCSworld_rows : Value} {odCSworld_rows : Option Addr} {slCSworld_rows : Array (Option Value)} {kVCSworld_rows dcCSworld_rows pmCSworld_rows : Value} {anCSworld_rows : Option Addr} {cdCSworld_rows ctCSworld_rows : Value}
    {ocDIs_name : Value} {odDIs_name : Option Addr} {slDIs_name : Array (Option Value)} {kVDIs_name dcDIs_name pmDIs_name : Value} {anDIs_name : Option Addr} {cdDIs_name ctDIs_name : Value}
    {ocDIs_step : Value} {odDIs_step : Option Addr} {slDIs_step : Array (Option Value)} {kVDIs_step dcDIs_step pmDIs_step : Value} {anDIs_step : Option Addr} {cdDIs_step ctDIs_step : Value}
    {ocDIs_body : Value} {odDIs_body : Option Addr} {slDIs_body : Array (Option Value)} {kVDIs_body dcDIs_body pmDIs_body : Value} {anDIs_body : Option Addr} {cdDIs_body ctDIs_body : Value}
    {ocDChecked_bodies : Value} {odDChecked_bodies : Option Addr} {slDChecked_bodies : Array (Option Value)} {kVDChecked_bodies dcDChecked_bodies pmDChecked_bodies : Value} {anDChecked_bodies : Option Addr} {cdDChecked_bodies ctDChecked_bodies : Value}
    {ocDCheck_callees : Value} {odDCheck_callees : Option Addr} {slDCheck_callees : Array (Option Value)} {kVDCheck_callees dcDCheck_callees pmDCheck_callees : Value} {anDCheck_callees : Option Addr} {cdDCheck_callees ctDCheck_callees : Value}
    {ocDPlaces : Value} {odDPlaces : Option Addr} {slDPlaces : Array (Option Value)} {kVDPlaces dcDPlaces pmDPlaces : Value} {anDPlaces : Option Addr} {cdDPlaces ctDPlaces : Value}
    {ocDSource : Value} {odDSource : Option Addr} {slDSource : Array (Option Value)} {kVDSource dcDSource pmDSource : Value} {anDSource : Option Addr} {cdDSource ctDSource : Value}
    {ocDDraw : Value} {odDDraw : Option Addr} {slDDraw : Array (Option Value)} {kVDDraw dcDDraw pmDDraw : Value} {anDDraw : Option Addr} {cdDDraw ctDDraw : Value}
    {ocDName : Value} {odDName : Option Addr} {slDName : Array (Option Value)} {kVDName dcDName pmDName : Value} {anDName : Option Addr} {cdDName ctDName : Value}
    {ocDNames : Value} {odDNames : Option Addr} {slDNames : Array (Option Value)} {kVDNames dcDNames pmDNames : Value} {anDNames : Option Addr} {cdDNames ctDNames : Value}
    {ocDCheck_procedure : Value} {odDCheck_procedure : Option Addr} {slDCheck_procedure : Array (Option Value)} {kVDCheck_procedure dcDCheck_procedure pmDCheck_procedure : Value} {anDCheck_procedure : Option Addr} {cdDCheck_procedure ctDCheck_procedure : Value}
    {ocDChecked_procedures : Value} {odDChecked_procedures : Option Addr} {slDChecked_procedures : Array (Option Value)} {kVDChecked_procedures dcDChecked_procedures pmDChecked_procedures : Value} {anDChecked_procedures : Option Addr} {cdDChecked_procedures ctDChecked_procedures : Value}
    {ocDRequiring_paths : Value} {odDRequiring_paths : Option Addr} {slDRequiring_paths : Array (Option Value)} {kVDRequiring_paths dcDRequiring_paths pmDRequiring_paths : Value} {anDRequiring_paths : Option Addr} {cdDRequiring_paths ctDRequiring_paths : Value}
    {ocDItem : Value} {odDItem : Option Addr} {slDItem : Array (Option Value)} {kVDItem dcDItem pmDItem : Value} {anDItem : Option Addr} {cdDItem ctDItem : Value}
    {ocDRows_of_all : Value} {odDRows_of_all : Option Addr} {slDRows_of_all : Array (Option Value)} {kVDRows_of_all dcDRows_of_all pmDRows_of_all : Value} {anDRows_of_all : Option Addr} {cdDRows_of_all ctDRows_of_all : Value}
    {ocDItem_at : Value} {odDItem_at : Option Addr} {slDItem_at : Array (Option Value)} {kVDItem_at dcDItem_at pmDItem_at : Value} {anDItem_at : Option Addr} {cdDItem_at ctDItem_at : Value}
    {ocDDifference : Value} {odDDifference : Option Addr} {slDDifference : Array (Option Value)} {kVDDifference dcDDifference pmDDifference : Value} {anDDifference : Option Addr} {cdDDifference ctDDifference : Value}
    {ocDParting : Value} {odDParting : Option Addr} {slDParting : Array (Option Value)} {kVDParting dcDParting pmDParting : Value} {anDParting : Option Addr} {cdDParting ctDParting : Value}
    {ocDAlike : Value} {odDAlike : Option Addr} {slDAlike : Array (Option Value)} {kVDAlike dcDAlike pmDAlike : Value} {anDAlike : Option Addr} {cdDAlike ctDAlike : Value}
    {ocDLaw : Value} {odDLaw : Option Addr} {slDLaw : Array (Option Value)} {kVDLaw dcDLaw pmDLaw : Value} {anDLaw : Option Addr} {cdDLaw ctDLaw : Value}
    {ocEPaths_from : Value} {odEPaths_from : Option Addr} {slEPaths_from : Array (Option Value)} {kVEPaths_from dcEPaths_from pmEPaths_from : Value} {anEPaths_from : Option Addr} {cdEPaths_from cuEPaths_from : Value} {o1EPaths_from o2EPaths_from : Obj} {itsEPaths_from : List Value} {n1EPaths_from n2EPaths_from : Nat}
    {ocGBreaks : Value} {odGBreaks : Option Addr} {slGBreaks : Array (Option Value)} {dcGBreaks pmGBreaks : Value} {anGBreaks : Option Addr} {cdGBreaks cuGBreaks : Value} {o2GBreaks : Obj} {n2GBreaks : Nat}
    {ocNDifference_path : Value} {odNDifference_path : Option Addr} {slNDifference_path : Array (Option Value)} {kVNDifference_path dcNDifference_path pmNDifference_path : Value} {anNDifference_path : Option Addr} {cdNDifference_path cuNDifference_path : Value} {o1NDifference_path : Obj} {itsNDifference_path : List Value} {n1NDifference_path : Nat} {tkNDifference_path0 tkNDifference_path1 : Tok}
    {tkLONGEST_NAME : Tok}
    {tkMOST_STEPS : Tok}
    {tkMOST_PROCEDURES : Tok}
    {oKINDS : Obj} {itsKINDS : List Value} {nKINDS : Nat} {uKINDS0 uKINDS1 uKINDS2 uKINDS3 : Tok}
    {oCALLING_KINDS : Obj} {itsCALLING_KINDS : List Value} {nCALLING_KINDS : Nat} {uCALLING_KINDS0 uCALLING_KINDS1 : Tok}
    {oREQUIRING_KINDS : Obj} {itsREQUIRING_KINDS : List Value} {nREQUIRING_KINDS : Nat} {uREQUIRING_KINDS0 : Tok}
    {oGAP : Obj} {itsGAP : List Value} {nGAP : Nat} {uGAP0 : Tok}
    {oMISSING : Obj} {itsMISSING : List Value} {nMISSING : Nat} {uMISSING0 : Tok}
    (aCCn : PySem.W.nsIn K mainGlobals "NameSet" = some (some (.ref Cn)))
    (pgCn : PySem.W.plainGet K Cn Str.empty = true) (hdCn : PySem.W.hasDictIn K Cn = true) (poCn : PySem.W.plainOver K Cn = true) (saCn : PySem.W.findIn K (.ref Cn) "__setattr__" = some (some (.builtin "object.__setattr__"))) (mkCn : PySem.W.makesIn K Cn = true) (kcCn : PySem.W.keepIn K (.ref Cn) = true)
    (haCn : PySem.W.findIn K (.ref Cn) "__class__" = some (some (.builtin "object.__class__"))) (hmCn : PySem.W.mroIn K Cn (.type "object") = some true) (ciCn : PySem.W.isClsIn K Cn = true) (ctCn : PySem.W.typeIn K (.ref Cn) = some (.type "type")) (kLCn : PySem.W.subIn K (.type "list") (.ref Cn) = some false) (kTCn : PySem.W.subIn K (.type "tuple") (.ref Cn) = some false)
    (neCn : PySem.W.findIn K (.ref Cn) "__ne__" = some (some (.builtin "object.__ne__"))) (sfCn : PySem.W.selfFirst K Cn = true)
    (nCnmembers : PySem.W.findIn K (.ref Cn) "members" = some none)
    (iaCn : PySem.W.findIn K (.ref Cn) "__init__" = some (some (.ref fICn))) (iiCn : PySem.W.isFn K (.ref fICn) = true) (ilCn : K.lookup fICn = some ⟨ocCn, odCn, .func (PySem.W.fnOf "__init__" "NameSet.__init__" (defArgs sNameSetInit) (defBody sNameSetInit) (defScope sNameSetInit) (.ref tDCn) kVCn dcCn pmCn anCn cdCn cuCn), slCn⟩) (icCn : PySem.W.codeIn K cdCn "NameSet.__init__" = true) (ikCn : PySem.W.keepIn K (.ref fICn) = true)
    (t1Cn : K.lookup tDCn = some o1Cn) (t2Cn : o1Cn.data = .seq itsCn.toArray n1Cn) (t3Cn : itsCn = [.ref t0Cn]) (t4Cn : K.lookup t0Cn = some o2Cn) (t5Cn : o2Cn.data = .seq ([] : List Value).toArray n2Cn) (t6Cn : o2Cn.cls = .type "tuple")
    (aCneq : PySem.W.findIn K (.ref Cn) "__eq__" = some (some (.ref fCneq))) (lCneq : K.lookup fCneq = some ⟨ocCneq, odCneq, .func (PySem.W.fnOf "__eq__" "NameSet.__eq__" (defArgs sNameSetEq) (defBody sNameSetEq) (defScope sNameSetEq) .none kVCneq dcCneq pmCneq anCneq cdCneq ctCneq), slCneq⟩) (cCneq : PySem.W.codeIn K cdCneq "NameSet.__eq__" = true) (kCneq : PySem.W.keepIn K (.ref fCneq) = true) (iCneq : PySem.W.isFn K (.ref fCneq) = true) (nCneq : PySem.W.fnIn K fCneq = true)
    (aCnle : PySem.W.findIn K (.ref Cn) "__le__" = some (some (.ref fCnle))) (lCnle : K.lookup fCnle = some ⟨ocCnle, odCnle, .func (PySem.W.fnOf "__le__" "NameSet.__le__" (defArgs sNameSetLe) (defBody sNameSetLe) (defScope sNameSetLe) .none kVCnle dcCnle pmCnle anCnle cdCnle ctCnle), slCnle⟩) (cCnle : PySem.W.codeIn K cdCnle "NameSet.__le__" = true) (kCnle : PySem.W.keepIn K (.ref fCnle) = true) (iCnle : PySem.W.isFn K (.ref fCnle) = true) (nCnle : PySem.W.fnIn K fCnle = true)
    (aCnor : PySem.W.findIn K (.ref Cn) "__or__" = some (some (.ref fCnor))) (lCnor : K.lookup fCnor = some ⟨ocCnor, odCnor, .func (PySem.W.fnOf "__or__" "NameSet.__or__" (defArgs sNameSetOr) (defBody sNameSetOr) (defScope sNameSetOr) .none kVCnor dcCnor pmCnor anCnor cdCnor ctCnor), slCnor⟩) (cCnor : PySem.W.codeIn K cdCnor "NameSet.__or__" = true) (kCnor : PySem.W.keepIn K (.ref fCnor) = true) (iCnor : PySem.W.isFn K (.ref fCnor) = true) (nCnor : PySem.W.fnIn K fCnor = true)
    (aCncontains : PySem.W.findIn K (.ref Cn) "__contains__" = some (some (.ref fCncontains))) (lCncontains : K.lookup fCncontains = some ⟨ocCncontains, odCncontains, .func (PySem.W.fnOf "__contains__" "NameSet.__contains__" (defArgs sNameSetContains) (defBody sNameSetContains) (defScope sNameSetContains) .none kVCncontains dcCncontains pmCncontains anCncontains cdCncontains ctCncontains), slCncontains⟩) (cCncontains : PySem.W.codeIn K cdCncontains "NameSet.__contains__" = true) (kCncontains : PySem.W.keepIn K (.ref fCncontains) = true) (iCncontains : PySem.W.isFn K (.ref fCncontains) = true) (nCncontains : PySem.W.fnIn K fCncontains = true)
    (aCCp : PySem.W.nsIn K mainGlobals "Program" = some (some (.ref Cp)))
    (pgCp : PySem.W.plainGet K Cp Str.empty = true) (hdCp : PySem.W.hasDictIn K Cp = true) (poCp : PySem.W.plainOver K Cp = true) (saCp : PySem.W.findIn K (.ref Cp) "__setattr__" = some (some (.builtin "object.__setattr__"))) (mkCp : PySem.W.makesIn K Cp = true) (kcCp : PySem.W.keepIn K (.ref Cp) = true)
    (haCp : PySem.W.findIn K (.ref Cp) "__class__" = some (some (.builtin "object.__class__"))) (hmCp : PySem.W.mroIn K Cp (.type "object") = some true) (ciCp : PySem.W.isClsIn K Cp = true) (ctCp : PySem.W.typeIn K (.ref Cp) = some (.type "type")) (kLCp : PySem.W.subIn K (.type "list") (.ref Cp) = some false) (kTCp : PySem.W.subIn K (.type "tuple") (.ref Cp) = some false)
    (neCp : PySem.W.findIn K (.ref Cp) "__ne__" = some (some (.builtin "object.__ne__"))) (sfCp : PySem.W.selfFirst K Cp = true)
    (nCp_bodies : PySem.W.findIn K (.ref Cp) "_bodies" = some none)
    (nCpnames : PySem.W.findIn K (.ref Cp) "names" = some none)
    (nCpplaces : PySem.W.findIn K (.ref Cp) "places" = some none)
    (aICp : PySem.W.findIn K (.ref Cp) "__init__" = some (some (.ref fICp))) (lICp : K.lookup fICp = some ⟨ocICp, odICp, .func (PySem.W.fnOf "__init__" "Program.__init__" (defArgs sProgramInit) (defBody sProgramInit) (defScope sProgramInit) .none kVICp dcICp pmICp anICp cdICp ctICp), slICp⟩) (cICp : PySem.W.codeIn K cdICp "Program.__init__" = true) (kICp : PySem.W.keepIn K (.ref fICp) = true) (iICp : PySem.W.isFn K (.ref fICp) = true) (nICp : PySem.W.fnIn K fICp = true)
    (aCpeq : PySem.W.findIn K (.ref Cp) "__eq__" = some (some (.ref fCpeq))) (lCpeq : K.lookup fCpeq = some ⟨ocCpeq, odCpeq, .func (PySem.W.fnOf "__eq__" "Program.__eq__" (defArgs sProgramEq) (defBody sProgramEq) (defScope sProgramEq) .none kVCpeq dcCpeq pmCpeq anCpeq cdCpeq ctCpeq), slCpeq⟩) (cCpeq : PySem.W.codeIn K cdCpeq "Program.__eq__" = true) (kCpeq : PySem.W.keepIn K (.ref fCpeq) = true) (iCpeq : PySem.W.isFn K (.ref fCpeq) = true) (nCpeq : PySem.W.fnIn K fCpeq = true)
    (aCpgetitem : PySem.W.findIn K (.ref Cp) "__getitem__" = some (some (.ref fCpgetitem))) (lCpgetitem : K.lookup fCpgetitem = some ⟨ocCpgetitem, odCpgetitem, .func (PySem.W.fnOf "__getitem__" "Program.__getitem__" (defArgs sProgramGetitem) (defBody sProgramGetitem) (defScope sProgramGetitem) .none kVCpgetitem dcCpgetitem pmCpgetitem anCpgetitem cdCpgetitem ctCpgetitem), slCpgetitem⟩) (cCpgetitem : PySem.W.codeIn K cdCpgetitem "Program.__getitem__" = true) (kCpgetitem : PySem.W.keepIn K (.ref fCpgetitem) = true) (iCpgetitem : PySem.W.isFn K (.ref fCpgetitem) = true) (nCpgetitem : PySem.W.fnIn K fCpgetitem = true)
    (aCpcontains : PySem.W.findIn K (.ref Cp) "__contains__" = some (some (.ref fCpcontains))) (lCpcontains : K.lookup fCpcontains = some ⟨ocCpcontains, odCpcontains, .func (PySem.W.fnOf "__contains__" "Program.__contains__" (defArgs sProgramContains) (defBody sProgramContains) (defScope sProgramContains) .none kVCpcontains dcCpcontains pmCpcontains anCpcontains cdCpcontains ctCpcontains), slCpcontains⟩) (cCpcontains : PySem.W.codeIn K cdCpcontains "Program.__contains__" = true) (kCpcontains : PySem.W.keepIn K (.ref fCpcontains) = true) (iCpcontains : PySem.W.isFn K (.ref fCpcontains) = true) (nCpcontains : PySem.W.fnIn K fCpcontains = true)
    (aCplen : PySem.W.findIn K (.ref Cp) "__len__" = some (some (.ref fCplen))) (lCplen : K.lookup fCplen = some ⟨ocCplen, odCplen, .func (PySem.W.fnOf "__len__" "Program.__len__" (defArgs sProgramLen) (defBody sProgramLen) (defScope sProgramLen) .none kVCplen dcCplen pmCplen anCplen cdCplen ctCplen), slCplen⟩) (cCplen : PySem.W.codeIn K cdCplen "Program.__len__" = true) (kCplen : PySem.W.keepIn K (.ref fCplen) = true) (iCplen : PySem.W.isFn K (.ref fCplen) = true) (nCplen : PySem.W.fnIn K fCplen = true)
    (aCCS : PySem.W.nsIn K mainGlobals "Side" = some (some (.ref CS)))
    (pgCS : PySem.W.plainGet K CS Str.empty = true) (hdCS : PySem.W.hasDictIn K CS = true) (poCS : PySem.W.plainOver K CS = true) (saCS : PySem.W.findIn K (.ref CS) "__setattr__" = some (some (.builtin "object.__setattr__"))) (mkCS : PySem.W.makesIn K CS = true) (kcCS : PySem.W.keepIn K (.ref CS) = true)
    (haCS : PySem.W.findIn K (.ref CS) "__class__" = some (some (.builtin "object.__class__"))) (hmCS : PySem.W.mroIn K CS (.type "object") = some true) (ciCS : PySem.W.isClsIn K CS = true) (ctCS : PySem.W.typeIn K (.ref CS) = some (.type "type")) (kLCS : PySem.W.subIn K (.type "list") (.ref CS) = some false) (kTCS : PySem.W.subIn K (.type "tuple") (.ref CS) = some false)
    (neCS : PySem.W.findIn K (.ref CS) "__ne__" = some (some (.builtin "object.__ne__"))) (sfCS : PySem.W.selfFirst K CS = true)
    (nCSprogram : PySem.W.findIn K (.ref CS) "program" = some none)
    (nCSname : PySem.W.findIn K (.ref CS) "name" = some none)
    (nCSnumbers : PySem.W.findIn K (.ref CS) "numbers" = some none)
    (nCSstart : PySem.W.findIn K (.ref CS) "start" = some none)
    (nCSweak_points : PySem.W.findIn K (.ref CS) "weak_points" = some none)
    (aICS : PySem.W.findIn K (.ref CS) "__init__" = some (some (.ref fICS))) (lICS : K.lookup fICS = some ⟨ocICS, odICS, .func (PySem.W.fnOf "__init__" "Side.__init__" (defArgs sSideInit) (defBody sSideInit) (defScope sSideInit) .none kVICS dcICS pmICS anICS cdICS ctICS), slICS⟩) (cICS : PySem.W.codeIn K cdICS "Side.__init__" = true) (kICS : PySem.W.keepIn K (.ref fICS) = true) (iICS : PySem.W.isFn K (.ref fICS) = true) (nICS : PySem.W.fnIn K fICS = true)
    (aCSfails : PySem.W.findIn K (.ref CS) "fails" = some (some (.ref fCSfails))) (lCSfails : K.lookup fCSfails = some ⟨ocCSfails, odCSfails, .func (PySem.W.fnOf "fails" "Side.fails" (defArgs sSideFails) (defBody sSideFails) (defScope sSideFails) .none kVCSfails dcCSfails pmCSfails anCSfails cdCSfails ctCSfails), slCSfails⟩) (cCSfails : PySem.W.codeIn K cdCSfails "Side.fails" = true) (kCSfails : PySem.W.keepIn K (.ref fCSfails) = true) (iCSfails : PySem.W.isFn K (.ref fCSfails) = true) (nCSfails : PySem.W.fnIn K fCSfails = true)
    (aCSworld_rows : PySem.W.findIn K (.ref CS) "world_rows" = some (some (.ref fCSworld_rows))) (lCSworld_rows : K.lookup fCSworld_rows = some ⟨ocCSworld_rows, odCSworld_rows, .func (PySem.W.fnOf "world_rows" "Side.world_rows" (defArgs sSideWorld_rows) (defBody sSideWorld_rows) (defScope sSideWorld_rows) .none kVCSworld_rows dcCSworld_rows pmCSworld_rows anCSworld_rows cdCSworld_rows ctCSworld_rows), slCSworld_rows⟩) (cCSworld_rows : PySem.W.codeIn K cdCSworld_rows "Side.world_rows" = true) (kCSworld_rows : PySem.W.keepIn K (.ref fCSworld_rows) = true) (iCSworld_rows : PySem.W.isFn K (.ref fCSworld_rows) = true) (nCSworld_rows : PySem.W.fnIn K fCSworld_rows = true)
    (hn : PySem.W.specialIn K (.builtin "object.__class__") "__get__" = some (some (.builtin "getset_descriptor.__get__"))) (htk : PySem.W.takesIn K (.builtin "object.__class__") = some true)
    (aDIs_name : PySem.W.nsIn K mainGlobals "is_name" = some (some (.ref fDIs_name))) (lDIs_name : K.lookup fDIs_name = some ⟨ocDIs_name, odDIs_name, .func (PySem.W.fnOf "is_name" "is_name" (defArgs sIs_name) (defBody sIs_name) (defScope sIs_name) .none kVDIs_name dcDIs_name pmDIs_name anDIs_name cdDIs_name ctDIs_name), slDIs_name⟩) (cDIs_name : PySem.W.codeIn K cdDIs_name "is_name" = true) (kDIs_name : PySem.W.keepIn K (.ref fDIs_name) = true)
    (aDIs_step : PySem.W.nsIn K mainGlobals "_is_step" = some (some (.ref fDIs_step))) (lDIs_step : K.lookup fDIs_step = some ⟨ocDIs_step, odDIs_step, .func (PySem.W.fnOf "_is_step" "_is_step" (defArgs sIs_step) (defBody sIs_step) (defScope sIs_step) .none kVDIs_step dcDIs_step pmDIs_step anDIs_step cdDIs_step ctDIs_step), slDIs_step⟩) (cDIs_step : PySem.W.codeIn K cdDIs_step "_is_step" = true) (kDIs_step : PySem.W.keepIn K (.ref fDIs_step) = true)
    (aDIs_body : PySem.W.nsIn K mainGlobals "_is_body" = some (some (.ref fDIs_body))) (lDIs_body : K.lookup fDIs_body = some ⟨ocDIs_body, odDIs_body, .func (PySem.W.fnOf "_is_body" "_is_body" (defArgs sIs_body) (defBody sIs_body) (defScope sIs_body) .none kVDIs_body dcDIs_body pmDIs_body anDIs_body cdDIs_body ctDIs_body), slDIs_body⟩) (cDIs_body : PySem.W.codeIn K cdDIs_body "_is_body" = true) (kDIs_body : PySem.W.keepIn K (.ref fDIs_body) = true)
    (aDChecked_bodies : PySem.W.nsIn K mainGlobals "_checked_bodies" = some (some (.ref fDChecked_bodies))) (lDChecked_bodies : K.lookup fDChecked_bodies = some ⟨ocDChecked_bodies, odDChecked_bodies, .func (PySem.W.fnOf "_checked_bodies" "_checked_bodies" (defArgs sChecked_bodies) (defBody sChecked_bodies) (defScope sChecked_bodies) .none kVDChecked_bodies dcDChecked_bodies pmDChecked_bodies anDChecked_bodies cdDChecked_bodies ctDChecked_bodies), slDChecked_bodies⟩) (cDChecked_bodies : PySem.W.codeIn K cdDChecked_bodies "_checked_bodies" = true) (kDChecked_bodies : PySem.W.keepIn K (.ref fDChecked_bodies) = true)
    (aDCheck_callees : PySem.W.nsIn K mainGlobals "_check_callees" = some (some (.ref fDCheck_callees))) (lDCheck_callees : K.lookup fDCheck_callees = some ⟨ocDCheck_callees, odDCheck_callees, .func (PySem.W.fnOf "_check_callees" "_check_callees" (defArgs sCheck_callees) (defBody sCheck_callees) (defScope sCheck_callees) .none kVDCheck_callees dcDCheck_callees pmDCheck_callees anDCheck_callees cdDCheck_callees ctDCheck_callees), slDCheck_callees⟩) (cDCheck_callees : PySem.W.codeIn K cdDCheck_callees "_check_callees" = true) (kDCheck_callees : PySem.W.keepIn K (.ref fDCheck_callees) = true)
    (aDPlaces : PySem.W.nsIn K mainGlobals "_places" = some (some (.ref fDPlaces))) (lDPlaces : K.lookup fDPlaces = some ⟨ocDPlaces, odDPlaces, .func (PySem.W.fnOf "_places" "_places" (defArgs sPlaces) (defBody sPlaces) (defScope sPlaces) .none kVDPlaces dcDPlaces pmDPlaces anDPlaces cdDPlaces ctDPlaces), slDPlaces⟩) (cDPlaces : PySem.W.codeIn K cdDPlaces "_places" = true) (kDPlaces : PySem.W.keepIn K (.ref fDPlaces) = true)
    (aDSource : PySem.W.nsIn K mainGlobals "_law_source" = some (some (.ref fDSource))) (lDSource : K.lookup fDSource = some ⟨ocDSource, odDSource, .func (PySem.W.fnOf "_law_source" "_law_source" (defArgs sSource) (defBody sSource) (defScope sSource) .none kVDSource dcDSource pmDSource anDSource cdDSource ctDSource), slDSource⟩) (cDSource : PySem.W.codeIn K cdDSource "_law_source" = true) (kDSource : PySem.W.keepIn K (.ref fDSource) = true)
    (aDDraw : PySem.W.nsIn K mainGlobals "_law_draw" = some (some (.ref fDDraw))) (lDDraw : K.lookup fDDraw = some ⟨ocDDraw, odDDraw, .func (PySem.W.fnOf "_law_draw" "_law_draw" (defArgs sDraw) (defBody sDraw) (defScope sDraw) .none kVDDraw dcDDraw pmDDraw anDDraw cdDDraw ctDDraw), slDDraw⟩) (cDDraw : PySem.W.codeIn K cdDDraw "_law_draw" = true) (kDDraw : PySem.W.keepIn K (.ref fDDraw) = true)
    (aDName : PySem.W.nsIn K mainGlobals "_law_name" = some (some (.ref fDName))) (lDName : K.lookup fDName = some ⟨ocDName, odDName, .func (PySem.W.fnOf "_law_name" "_law_name" (defArgs sName) (defBody sName) (defScope sName) .none kVDName dcDName pmDName anDName cdDName ctDName), slDName⟩) (cDName : PySem.W.codeIn K cdDName "_law_name" = true) (kDName : PySem.W.keepIn K (.ref fDName) = true)
    (aDNames : PySem.W.nsIn K mainGlobals "_law_names" = some (some (.ref fDNames))) (lDNames : K.lookup fDNames = some ⟨ocDNames, odDNames, .func (PySem.W.fnOf "_law_names" "_law_names" (defArgs sNames) (defBody sNames) (defScope sNames) .none kVDNames dcDNames pmDNames anDNames cdDNames ctDNames), slDNames⟩) (cDNames : PySem.W.codeIn K cdDNames "_law_names" = true) (kDNames : PySem.W.keepIn K (.ref fDNames) = true)
    (aDCheck_procedure : PySem.W.nsIn K mainGlobals "check_procedure" = some (some (.ref fDCheck_procedure))) (lDCheck_procedure : K.lookup fDCheck_procedure = some ⟨ocDCheck_procedure, odDCheck_procedure, .func (PySem.W.fnOf "check_procedure" "check_procedure" (defArgs sCheck_procedure) (defBody sCheck_procedure) (defScope sCheck_procedure) .none kVDCheck_procedure dcDCheck_procedure pmDCheck_procedure anDCheck_procedure cdDCheck_procedure ctDCheck_procedure), slDCheck_procedure⟩) (cDCheck_procedure : PySem.W.codeIn K cdDCheck_procedure "check_procedure" = true) (kDCheck_procedure : PySem.W.keepIn K (.ref fDCheck_procedure) = true)
    (aDChecked_procedures : PySem.W.nsIn K mainGlobals "checked_procedures" = some (some (.ref fDChecked_procedures))) (lDChecked_procedures : K.lookup fDChecked_procedures = some ⟨ocDChecked_procedures, odDChecked_procedures, .func (PySem.W.fnOf "checked_procedures" "checked_procedures" (defArgs sChecked_procedures) (defBody sChecked_procedures) (defScope sChecked_procedures) .none kVDChecked_procedures dcDChecked_procedures pmDChecked_procedures anDChecked_procedures cdDChecked_procedures ctDChecked_procedures), slDChecked_procedures⟩) (cDChecked_procedures : PySem.W.codeIn K cdDChecked_procedures "checked_procedures" = true) (kDChecked_procedures : PySem.W.keepIn K (.ref fDChecked_procedures) = true)
    (aDRequiring_paths : PySem.W.nsIn K mainGlobals "requiring_paths" = some (some (.ref fDRequiring_paths))) (lDRequiring_paths : K.lookup fDRequiring_paths = some ⟨ocDRequiring_paths, odDRequiring_paths, .func (PySem.W.fnOf "requiring_paths" "requiring_paths" (defArgs sRequiring_paths) (defBody sRequiring_paths) (defScope sRequiring_paths) .none kVDRequiring_paths dcDRequiring_paths pmDRequiring_paths anDRequiring_paths cdDRequiring_paths ctDRequiring_paths), slDRequiring_paths⟩) (cDRequiring_paths : PySem.W.codeIn K cdDRequiring_paths "requiring_paths" = true) (kDRequiring_paths : PySem.W.keepIn K (.ref fDRequiring_paths) = true)
    (aDItem : PySem.W.nsIn K mainGlobals "_item" = some (some (.ref fDItem))) (lDItem : K.lookup fDItem = some ⟨ocDItem, odDItem, .func (PySem.W.fnOf "_item" "_item" (defArgs sItem) (defBody sItem) (defScope sItem) .none kVDItem dcDItem pmDItem anDItem cdDItem ctDItem), slDItem⟩) (cDItem : PySem.W.codeIn K cdDItem "_item" = true) (kDItem : PySem.W.keepIn K (.ref fDItem) = true)
    (aDRows_of_all : PySem.W.nsIn K mainGlobals "rows_of_all" = some (some (.ref fDRows_of_all))) (lDRows_of_all : K.lookup fDRows_of_all = some ⟨ocDRows_of_all, odDRows_of_all, .func (PySem.W.fnOf "rows_of_all" "rows_of_all" (defArgs sRows_of_all) (defBody sRows_of_all) (defScope sRows_of_all) .none kVDRows_of_all dcDRows_of_all pmDRows_of_all anDRows_of_all cdDRows_of_all ctDRows_of_all), slDRows_of_all⟩) (cDRows_of_all : PySem.W.codeIn K cdDRows_of_all "rows_of_all" = true) (kDRows_of_all : PySem.W.keepIn K (.ref fDRows_of_all) = true)
    (aDItem_at : PySem.W.nsIn K mainGlobals "_item_at" = some (some (.ref fDItem_at))) (lDItem_at : K.lookup fDItem_at = some ⟨ocDItem_at, odDItem_at, .func (PySem.W.fnOf "_item_at" "_item_at" (defArgs sItem_at) (defBody sItem_at) (defScope sItem_at) .none kVDItem_at dcDItem_at pmDItem_at anDItem_at cdDItem_at ctDItem_at), slDItem_at⟩) (cDItem_at : PySem.W.codeIn K cdDItem_at "_item_at" = true) (kDItem_at : PySem.W.keepIn K (.ref fDItem_at) = true)
    (aDDifference : PySem.W.nsIn K mainGlobals "_difference" = some (some (.ref fDDifference))) (lDDifference : K.lookup fDDifference = some ⟨ocDDifference, odDDifference, .func (PySem.W.fnOf "_difference" "_difference" (defArgs sDifference) (defBody sDifference) (defScope sDifference) .none kVDDifference dcDDifference pmDDifference anDDifference cdDDifference ctDDifference), slDDifference⟩) (cDDifference : PySem.W.codeIn K cdDDifference "_difference" = true) (kDDifference : PySem.W.keepIn K (.ref fDDifference) = true)
    (aDParting : PySem.W.nsIn K mainGlobals "parting" = some (some (.ref fDParting))) (lDParting : K.lookup fDParting = some ⟨ocDParting, odDParting, .func (PySem.W.fnOf "parting" "parting" (defArgs sParting) (defBody sParting) (defScope sParting) .none kVDParting dcDParting pmDParting anDParting cdDParting ctDParting), slDParting⟩) (cDParting : PySem.W.codeIn K cdDParting "parting" = true) (kDParting : PySem.W.keepIn K (.ref fDParting) = true)
    (aDAlike : PySem.W.nsIn K mainGlobals "alike" = some (some (.ref fDAlike))) (lDAlike : K.lookup fDAlike = some ⟨ocDAlike, odDAlike, .func (PySem.W.fnOf "alike" "alike" (defArgs sAlike) (defBody sAlike) (defScope sAlike) .none kVDAlike dcDAlike pmDAlike anDAlike cdDAlike ctDAlike), slDAlike⟩) (cDAlike : PySem.W.codeIn K cdDAlike "alike" = true) (kDAlike : PySem.W.keepIn K (.ref fDAlike) = true)
    (aDLaw : PySem.W.nsIn K mainGlobals "law" = some (some (.ref fDLaw))) (lDLaw : K.lookup fDLaw = some ⟨ocDLaw, odDLaw, .func (PySem.W.fnOf "law" "law" (defArgs sLaw) (defBody sLaw) (defScope sLaw) .none kVDLaw dcDLaw pmDLaw anDLaw cdDLaw ctDLaw), slDLaw⟩) (cDLaw : PySem.W.codeIn K cdDLaw "law" = true) (kDLaw : PySem.W.keepIn K (.ref fDLaw) = true)
    (iaEPaths_from : PySem.W.nsIn K mainGlobals "paths_from" = some (some (.ref fEPaths_from))) (ilEPaths_from : K.lookup fEPaths_from = some ⟨ocEPaths_from, odEPaths_from, .func (PySem.W.fnOf "paths_from" "paths_from" (defArgs sPaths_from) (defBody sPaths_from) (defScope sPaths_from) (.ref tDEPaths_from) kVEPaths_from dcEPaths_from pmEPaths_from anEPaths_from cdEPaths_from cuEPaths_from), slEPaths_from⟩) (icEPaths_from : PySem.W.codeIn K cdEPaths_from "paths_from" = true) (ikEPaths_from : PySem.W.keepIn K (.ref fEPaths_from) = true)
    (t1EPaths_from : K.lookup tDEPaths_from = some o1EPaths_from) (t2EPaths_from : o1EPaths_from.data = .seq itsEPaths_from.toArray n1EPaths_from) (t3EPaths_from : itsEPaths_from = [.ref t0EPaths_from]) (t4EPaths_from : K.lookup t0EPaths_from = some o2EPaths_from) (t5EPaths_from : o2EPaths_from.data = .seq ([] : List Value).toArray n2EPaths_from) (t6EPaths_from : o2EPaths_from.cls = .type "tuple")
    (iaGBreaks : PySem.W.nsIn K mainGlobals "breaks" = some (some (.ref fGBreaks))) (ilGBreaks : K.lookup fGBreaks = some ⟨ocGBreaks, odGBreaks, .func (PySem.W.fnOf "breaks" "breaks" (defArgs sBreaks) (defBody sBreaks) (defScope sBreaks) .none (.ref kDGBreaks) dcGBreaks pmGBreaks anGBreaks cdGBreaks cuGBreaks), slGBreaks⟩) (icGBreaks : PySem.W.codeIn K cdGBreaks "breaks" = true) (ikGBreaks : PySem.W.keepIn K (.ref fGBreaks) = true)
    (t3GBreaks : PySem.W.nsIn K kDGBreaks "spared" = some (some (.ref t0GBreaks))) (t4GBreaks : K.lookup t0GBreaks = some o2GBreaks) (t5GBreaks : o2GBreaks.data = .seq ([] : List Value).toArray n2GBreaks) (t6GBreaks : o2GBreaks.cls = .type "tuple")
    (iaNDifference_path : PySem.W.nsIn K mainGlobals "difference_path" = some (some (.ref fNDifference_path))) (ilNDifference_path : K.lookup fNDifference_path = some ⟨ocNDifference_path, odNDifference_path, .func (PySem.W.fnOf "difference_path" "difference_path" (defArgs sDifference_path) (defBody sDifference_path) (defScope sDifference_path) (.ref tDNDifference_path) kVNDifference_path dcNDifference_path pmNDifference_path anNDifference_path cdNDifference_path cuNDifference_path), slNDifference_path⟩) (icNDifference_path : PySem.W.codeIn K cdNDifference_path "difference_path" = true) (ikNDifference_path : PySem.W.keepIn K (.ref fNDifference_path) = true)
    (t1NDifference_path : K.lookup tDNDifference_path = some o1NDifference_path) (t2NDifference_path : o1NDifference_path.data = .seq itsNDifference_path.toArray n1NDifference_path) (t3NDifference_path : itsNDifference_path = [.int 0 tkNDifference_path0, .int 0 tkNDifference_path1])
    (aLONGEST_NAME : PySem.W.nsIn K mainGlobals "LONGEST_NAME" = some (some (.int 8 tkLONGEST_NAME)))
    (aMOST_STEPS : PySem.W.nsIn K mainGlobals "MOST_STEPS" = some (some (.int 12 tkMOST_STEPS)))
    (aMOST_PROCEDURES : PySem.W.nsIn K mainGlobals "MOST_PROCEDURES" = some (some (.int 16 tkMOST_PROCEDURES)))
    (aKINDS : PySem.W.nsIn K mainGlobals "KINDS" = some (some (.ref xKINDS))) (lKINDS : K.lookup xKINDS = some oKINDS) (dKINDS : oKINDS.data = .seq itsKINDS.toArray nKINDS) (iKINDS : itsKINDS = [.str "read" uKINDS0, .str "say" uKINDS1, .str "call" uKINDS2, .str "try" uKINDS3]) (cKINDS : oKINDS.cls = .type "tuple")
    (aCALLING_KINDS : PySem.W.nsIn K mainGlobals "CALLING_KINDS" = some (some (.ref xCALLING_KINDS))) (lCALLING_KINDS : K.lookup xCALLING_KINDS = some oCALLING_KINDS) (dCALLING_KINDS : oCALLING_KINDS.data = .seq itsCALLING_KINDS.toArray nCALLING_KINDS) (iCALLING_KINDS : itsCALLING_KINDS = [.str "call" uCALLING_KINDS0, .str "try" uCALLING_KINDS1]) (cCALLING_KINDS : oCALLING_KINDS.cls = .type "tuple")
    (aREQUIRING_KINDS : PySem.W.nsIn K mainGlobals "REQUIRING_KINDS" = some (some (.ref xREQUIRING_KINDS))) (lREQUIRING_KINDS : K.lookup xREQUIRING_KINDS = some oREQUIRING_KINDS) (dREQUIRING_KINDS : oREQUIRING_KINDS.data = .seq itsREQUIRING_KINDS.toArray nREQUIRING_KINDS) (iREQUIRING_KINDS : itsREQUIRING_KINDS = [.str "call" uREQUIRING_KINDS0]) (cREQUIRING_KINDS : oREQUIRING_KINDS.cls = .type "tuple")
    (aGAP : PySem.W.nsIn K mainGlobals "GAP" = some (some (.ref xGAP))) (lGAP : K.lookup xGAP = some oGAP) (dGAP : oGAP.data = .seq itsGAP.toArray nGAP) (iGAP : itsGAP = [.str "gap" uGAP0]) (cGAP : oGAP.cls = .type "tuple")
    (aMISSING : PySem.W.nsIn K mainGlobals "MISSING" = some (some (.ref xMISSING))) (lMISSING : K.lookup xMISSING = some oMISSING) (dMISSING : oMISSING.data = .seq itsMISSING.toArray nMISSING) (iMISSING : itsMISSING = [.str "missing" uMISSING0]) (cMISSING : oMISSING.cls = .type "tuple")
    (zint : PySem.W.nsIn K mainGlobals "int" = some none)
    (zenumerate : PySem.W.nsIn K mainGlobals "enumerate" = some none)
    (zrange : PySem.W.nsIn K mainGlobals "range" = some none)
    (zlist : PySem.W.nsIn K mainGlobals "list" = some none)
    (ztuple : PySem.W.nsIn K mainGlobals "tuple" = some none)
    (zsorted : PySem.W.nsIn K mainGlobals "sorted" = some none)
    (zstr : PySem.W.nsIn K mainGlobals "str" = some none)
    (zall : PySem.W.nsIn K mainGlobals "all" = some none)
    (zany : PySem.W.nsIn K mainGlobals "any" = some none)
    (zisinstance : PySem.W.nsIn K mainGlobals "isinstance" = some none)
    (zbool : PySem.W.nsIn K mainGlobals "bool" = some none)
    (zlen : PySem.W.nsIn K mainGlobals "len" = some none)
    (zset : PySem.W.nsIn K mainGlobals "set" = some none)
    (zmax : PySem.W.nsIn K mainGlobals "max" = some none) :
    ∃ fd : FuncData, (∀ (s : Shared) (v : Value), BindsTo s fd ⟨[v], []⟩ [("_law_script", v)]) ∧ ∀ base : Heap, K.In base → base.Ns mainGlobals mg → FnOk l.prog w K mg base CX0 10 fa fd ["_law_script"] (spLaw K) := by
  have mCneq : MetF K Cn "__eq__" "NameSet.__eq__" sNameSetEq fCneq := ⟨⟨_, _, _, _, _, _, _, _, _, aCneq, lCneq, cCneq, kCneq, iCneq, nCneq⟩⟩
  have mCnle : MetF K Cn "__le__" "NameSet.__le__" sNameSetLe fCnle := ⟨⟨_, _, _, _, _, _, _, _, _, aCnle, lCnle, cCnle, kCnle, iCnle, nCnle⟩⟩
  have mCnor : MetF K Cn "__or__" "NameSet.__or__" sNameSetOr fCnor := ⟨⟨_, _, _, _, _, _, _, _, _, aCnor, lCnor, cCnor, kCnor, iCnor, nCnor⟩⟩
  have mCncontains : MetF K Cn "__contains__" "NameSet.__contains__" sNameSetContains fCncontains := ⟨⟨_, _, _, _, _, _, _, _, _, aCncontains, lCncontains, cCncontains, kCncontains, iCncontains, nCncontains⟩⟩
  have mICp : MetF K Cp "__init__" "Program.__init__" sProgramInit fICp := ⟨⟨_, _, _, _, _, _, _, _, _, aICp, lICp, cICp, kICp, iICp, nICp⟩⟩
  have mCpeq : MetF K Cp "__eq__" "Program.__eq__" sProgramEq fCpeq := ⟨⟨_, _, _, _, _, _, _, _, _, aCpeq, lCpeq, cCpeq, kCpeq, iCpeq, nCpeq⟩⟩
  have mCpgetitem : MetF K Cp "__getitem__" "Program.__getitem__" sProgramGetitem fCpgetitem := ⟨⟨_, _, _, _, _, _, _, _, _, aCpgetitem, lCpgetitem, cCpgetitem, kCpgetitem, iCpgetitem, nCpgetitem⟩⟩
  have mCpcontains : MetF K Cp "__contains__" "Program.__contains__" sProgramContains fCpcontains := ⟨⟨_, _, _, _, _, _, _, _, _, aCpcontains, lCpcontains, cCpcontains, kCpcontains, iCpcontains, nCpcontains⟩⟩
  have mCplen : MetF K Cp "__len__" "Program.__len__" sProgramLen fCplen := ⟨⟨_, _, _, _, _, _, _, _, _, aCplen, lCplen, cCplen, kCplen, iCplen, nCplen⟩⟩
  have mICS : MetF K CS "__init__" "Side.__init__" sSideInit fICS := ⟨⟨_, _, _, _, _, _, _, _, _, aICS, lICS, cICS, kICS, iICS, nICS⟩⟩
  have mCSfails : MetF K CS "fails" "Side.fails" sSideFails fCSfails := ⟨⟨_, _, _, _, _, _, _, _, _, aCSfails, lCSfails, cCSfails, kCSfails, iCSfails, nCSfails⟩⟩
  have mCSworld_rows : MetF K CS "world_rows" "Side.world_rows" sSideWorld_rows fCSworld_rows := ⟨⟨_, _, _, _, _, _, _, _, _, aCSworld_rows, lCSworld_rows, cCSworld_rows, kCSworld_rows, iCSworld_rows, nCSworld_rows⟩⟩
  have dDIs_name : DefF K "is_name" sIs_name fDIs_name := ⟨⟨_, _, _, _, _, _, _, _, _, aDIs_name, lDIs_name, cDIs_name, kDIs_name⟩⟩
  have dDIs_step : DefF K "_is_step" sIs_step fDIs_step := ⟨⟨_, _, _, _, _, _, _, _, _, aDIs_step, lDIs_step, cDIs_step, kDIs_step⟩⟩
  have dDIs_body : DefF K "_is_body" sIs_body fDIs_body := ⟨⟨_, _, _, _, _, _, _, _, _, aDIs_body, lDIs_body, cDIs_body, kDIs_body⟩⟩
  have dDChecked_bodies : DefF K "_checked_bodies" sChecked_bodies fDChecked_bodies := ⟨⟨_, _, _, _, _, _, _, _, _, aDChecked_bodies, lDChecked_bodies, cDChecked_bodies, kDChecked_bodies⟩⟩
  have dDCheck_callees : DefF K "_check_callees" sCheck_callees fDCheck_callees := ⟨⟨_, _, _, _, _, _, _, _, _, aDCheck_callees, lDCheck_callees, cDCheck_callees, kDCheck_callees⟩⟩
  have dDPlaces : DefF K "_places" sPlaces fDPlaces := ⟨⟨_, _, _, _, _, _, _, _, _, aDPlaces, lDPlaces, cDPlaces, kDPlaces⟩⟩
  have dDSource : DefF K "_law_source" sSource fDSource := ⟨⟨_, _, _, _, _, _, _, _, _, aDSource, lDSource, cDSource, kDSource⟩⟩
  have dDDraw : DefF K "_law_draw" sDraw fDDraw := ⟨⟨_, _, _, _, _, _, _, _, _, aDDraw, lDDraw, cDDraw, kDDraw⟩⟩
  have dDName : DefF K "_law_name" sName fDName := ⟨⟨_, _, _, _, _, _, _, _, _, aDName, lDName, cDName, kDName⟩⟩
  have dDNames : DefF K "_law_names" sNames fDNames := ⟨⟨_, _, _, _, _, _, _, _, _, aDNames, lDNames, cDNames, kDNames⟩⟩
  have dDCheck_procedure : DefF K "check_procedure" sCheck_procedure fDCheck_procedure := ⟨⟨_, _, _, _, _, _, _, _, _, aDCheck_procedure, lDCheck_procedure, cDCheck_procedure, kDCheck_procedure⟩⟩
  have dDChecked_procedures : DefF K "checked_procedures" sChecked_procedures fDChecked_procedures := ⟨⟨_, _, _, _, _, _, _, _, _, aDChecked_procedures, lDChecked_procedures, cDChecked_procedures, kDChecked_procedures⟩⟩
  have dDRequiring_paths : DefF K "requiring_paths" sRequiring_paths fDRequiring_paths := ⟨⟨_, _, _, _, _, _, _, _, _, aDRequiring_paths, lDRequiring_paths, cDRequiring_paths, kDRequiring_paths⟩⟩
  have dDItem : DefF K "_item" sItem fDItem := ⟨⟨_, _, _, _, _, _, _, _, _, aDItem, lDItem, cDItem, kDItem⟩⟩
  have dDRows_of_all : DefF K "rows_of_all" sRows_of_all fDRows_of_all := ⟨⟨_, _, _, _, _, _, _, _, _, aDRows_of_all, lDRows_of_all, cDRows_of_all, kDRows_of_all⟩⟩
  have dDItem_at : DefF K "_item_at" sItem_at fDItem_at := ⟨⟨_, _, _, _, _, _, _, _, _, aDItem_at, lDItem_at, cDItem_at, kDItem_at⟩⟩
  have dDDifference : DefF K "_difference" sDifference fDDifference := ⟨⟨_, _, _, _, _, _, _, _, _, aDDifference, lDDifference, cDDifference, kDDifference⟩⟩
  have dDParting : DefF K "parting" sParting fDParting := ⟨⟨_, _, _, _, _, _, _, _, _, aDParting, lDParting, cDParting, kDParting⟩⟩
  have dDAlike : DefF K "alike" sAlike fDAlike := ⟨⟨_, _, _, _, _, _, _, _, _, aDAlike, lDAlike, cDAlike, kDAlike⟩⟩
  have dDLaw : DefF K "law" sLaw fDLaw := ⟨⟨_, _, _, _, _, _, _, _, _, aDLaw, lDLaw, cDLaw, kDLaw⟩⟩
  have vLONGEST_NAME : mg "LONGEST_NAME" = some (.int 8 tkLONGEST_NAME) := PySem.W.mg_of X G aLONGEST_NAME
  have vMOST_STEPS : mg "MOST_STEPS" = some (.int 12 tkMOST_STEPS) := PySem.W.mg_of X G aMOST_STEPS
  have vMOST_PROCEDURES : mg "MOST_PROCEDURES" = some (.int 16 tkMOST_PROCEDURES) := PySem.W.mg_of X G aMOST_PROCEDURES
  have vKINDS : mg "KINDS" = some (.ref xKINDS) := PySem.W.mg_of X G aKINDS
  have qKINDS : ∀ H, SqT K H xKINDS ([("read" : Str), ("say" : Str), ("call" : Str), ("try" : Str)].map V.str) := fun H => .inr ⟨oKINDS, itsKINDS.toArray, nKINDS, lKINDS, cKINDS, dKINDS, by rw [iKINDS]; show 4 ≤ sizeLine; decide, by rw [iKINDS]; exact (.cons ⟨uKINDS0, rfl⟩ (.cons ⟨uKINDS1, rfl⟩ (.cons ⟨uKINDS2, rfl⟩ (.cons ⟨uKINDS3, rfl⟩ .nil))))⟩
  have vCALLING_KINDS : mg "CALLING_KINDS" = some (.ref xCALLING_KINDS) := PySem.W.mg_of X G aCALLING_KINDS
  have qCALLING_KINDS : ∀ H, SqT K H xCALLING_KINDS ([("call" : Str), ("try" : Str)].map V.str) := fun H => .inr ⟨oCALLING_KINDS, itsCALLING_KINDS.toArray, nCALLING_KINDS, lCALLING_KINDS, cCALLING_KINDS, dCALLING_KINDS, by rw [iCALLING_KINDS]; show 2 ≤ sizeLine; decide, by rw [iCALLING_KINDS]; exact (.cons ⟨uCALLING_KINDS0, rfl⟩ (.cons ⟨uCALLING_KINDS1, rfl⟩ .nil))⟩
  have vREQUIRING_KINDS : mg "REQUIRING_KINDS" = some (.ref xREQUIRING_KINDS) := PySem.W.mg_of X G aREQUIRING_KINDS
  have qREQUIRING_KINDS : ∀ H, SqT K H xREQUIRING_KINDS ([("call" : Str)].map V.str) := fun H => .inr ⟨oREQUIRING_KINDS, itsREQUIRING_KINDS.toArray, nREQUIRING_KINDS, lREQUIRING_KINDS, cREQUIRING_KINDS, dREQUIRING_KINDS, by rw [iREQUIRING_KINDS]; show 1 ≤ sizeLine; decide, by rw [iREQUIRING_KINDS]; exact (.cons ⟨uREQUIRING_KINDS0, rfl⟩ .nil)⟩
  have vGAP : mg "GAP" = some (.ref xGAP) := PySem.W.mg_of X G aGAP
  have qGAP : ∀ H, SqT K H xGAP ([("gap" : Str)].map V.str) := fun H => .inr ⟨oGAP, itsGAP.toArray, nGAP, lGAP, cGAP, dGAP, by rw [iGAP]; show 1 ≤ sizeLine; decide, by rw [iGAP]; exact (.cons ⟨uGAP0, rfl⟩ .nil)⟩
  have vMISSING : mg "MISSING" = some (.ref xMISSING) := PySem.W.mg_of X G aMISSING
  have qMISSING : ∀ H, SqT K H xMISSING ([("missing" : Str)].map V.str) := fun H => .inr ⟨oMISSING, itsMISSING.toArray, nMISSING, lMISSING, cMISSING, dMISSING, by rw [iMISSING]; show 1 ≤ sizeLine; decide, by rw [iMISSING]; exact (.cons ⟨uMISSING0, rfl⟩ .nil)⟩
  have vint : mg "int" = none := PySem.W.mg_none_of X G zint
  have venumerate : mg "enumerate" = none := PySem.W.mg_none_of X G zenumerate
  have vrange : mg "range" = none := PySem.W.mg_none_of X G zrange
  have vlist : mg "list" = none := PySem.W.mg_none_of X G zlist
  have vtuple : mg "tuple" = none := PySem.W.mg_none_of X G ztuple
  have vsorted : mg "sorted" = none := PySem.W.mg_none_of X G zsorted
  have vstr : mg "str" = none := PySem.W.mg_none_of X G zstr
  have vall : mg "all" = none := PySem.W.mg_none_of X G zall
  have vany : mg "any" = none := PySem.W.mg_none_of X G zany
  have visinstance : mg "isinstance" = none := PySem.W.mg_none_of X G zisinstance
  have vbool : mg "bool" = none := PySem.W.mg_none_of X G zbool
  have vlen : mg "len" = none := PySem.W.mg_none_of X G zlen
  have vset : mg "set" = none := PySem.W.mg_none_of X G zset
  have vmax : mg "max" = none := PySem.W.mg_none_of X G zmax
  have q0Cn : ∀ H, SqT K H t0Cn [] := fun H => .inr ⟨o2Cn, #[], n2Cn, t4Cn, t6Cn, t5Cn, Nat.zero_le _, .nil⟩
  subst t3Cn
  have insCn : C8.InsC K Cn := ⟨⟨pgCn, hdCn, poCn, saCn⟩, haCn, hn, htk, hmCn, kit_self⟩
  have TCn : NsC K mg Cn := ⟨insCn, nCnmembers, PySem.W.mg_of X G aCCn, kit_own ciCn ctCn kLCn, kit_own ciCn ctCn kTCn, notFirst_of kTCn, notFirst_of kLCn, visinstance, vtuple, vsorted, vset, vall, vlen⟩
  have insCp : C8.InsC K Cp := ⟨⟨pgCp, hdCp, poCp, saCp⟩, haCp, hn, htk, hmCp, kit_self⟩
  have TCp : PgC K mg Cp := ⟨insCp, nCp_bodies, nCpnames, nCpplaces, PySem.W.mg_of X G aCCp, kit_own ciCp ctCp kLCp, kit_own ciCp ctCp kTCp, notFirst_of kTCp, notFirst_of kLCp, visinstance, vtuple, vlen⟩
  have insCS : C8.InsC K CS := ⟨⟨pgCS, hdCS, poCS, saCS⟩, haCS, hn, htk, hmCS, kit_self⟩
  have TCS : SdC K mg CS := ⟨insCS, nCSprogram, nCSname, nCSnumbers, nCSstart, nCSweak_points, PySem.W.mg_of X G aCCS⟩
  refine dDLaw.law X G hfa (fun _ _ _ _ _ _ s v => .of_eq rfl) fun base _ _ fd FL => ?_
  have c_is_name : Cal l.prog w K mg base CX0 1 "is_name" ["value"] spIsName := dDIs_name.cal X G (fun _ _ _ _ _ _ us hl => match us, hl with | [_], _ => rfl) fun fd F => ok_is_name F visinstance vstr vlen vall vLONGEST_NAME
  have c__is_step : Cal l.prog w K mg base CX0 2 "_is_step" ["step"] spIsStep := dDIs_step.cal X G (fun _ _ _ _ _ _ us hl => match us, hl with | [_], _ => rfl) fun fd F => ok_is_step F visinstance vtuple vlen vKINDS qKINDS c_is_name
  have c__is_body : Cal l.prog w K mg base CX0 3 "_is_body" ["steps"] (spIsBody K) := dDIs_body.cal X G (fun _ _ _ _ _ _ us hl => match us, hl with | [_], _ => rfl) fun fd F => ok_is_body F vlen vall vMOST_STEPS c__is_step
  have c__checked_bodies : Cal l.prog w K mg base CX0 4 "_checked_bodies" ["procedures"] (spChecked K) := dDChecked_bodies.cal X G (fun _ _ _ _ _ _ us hl => match us, hl with | [_], _ => rfl) fun fd F => ok_checked F venumerate vtuple vMOST_PROCEDURES c_is_name c__is_body
  have c__check_callees : Cal l.prog w K mg base CX0 1 "_check_callees" ["bodies"] (spCallees K) := dDCheck_callees.cal X G (fun _ _ _ _ _ _ us hl => match us, hl with | [_], _ => rfl) fun fd F => ok_callees F venumerate vCALLING_KINDS qCALLING_KINDS
  have FICn : FunD K "__init__" "NameSet.__init__" (defArgs sNameSetInit) (defBody sNameSetInit) (defScope sNameSetInit) [.ref t0Cn] [] fICn _ := ⟨⟨ocCn, odCn, .ref tDCn, kVCn, dcCn, pmCn, anCn, cdCn, cuCn, slCn, rfl, ilCn, icCn, .inr ⟨by simp, tDCn, o1Cn, _, n1Cn, rfl, t1Cn, t2Cn, .cons rfl .nil⟩, .inl rfl⟩, ikCn⟩
  have okICn : FnOk l.prog w K mg base CX0 1 fICn _ ["self", "names"] (spNsInit K Cn) := ok_nsInit FICn TCn
  obtain ⟨ds1Cn, r1Cn, b1Cn⟩ := FICn.binds1 (ps := ["self", "names"]) 2 1 (by simp) rfl fun _ _ _ _ _ _ _ us its hu hi => match us, its, hu, hi with | [_, _], [_], _, _ => ⟨_, rfl, rfl⟩
  obtain ⟨ds0Cn, r0Cn, b0Cn⟩ := FICn.binds1 (ps := ["self", "names"]) 1 0 (by simp) rfl fun _ _ _ _ _ _ _ us its hu hi => match us, its, hu, hi with | [_], [_], _, _ => ⟨_, rfl, rfl⟩
  have mk1Cn : CalC l.prog w K mg base CX0 1 "NameSet" Cn ["self", "names"] (spNsInit K Cn) [] := ⟨⟨fICn, _, ds1Cn, ⟨mkCn, iaCn, iiCn, kcCn⟩, okICn, PySem.W.mg_of X G aCCn, b1Cn, r1Cn⟩⟩
  have mk0Cn : CalC l.prog w K mg base CX0 1 "NameSet" Cn ["self", "names"] (spNsInit K Cn) [.ref t0Cn] := ⟨⟨fICn, _, ds0Cn, ⟨mkCn, iaCn, iiCn, kcCn⟩, okICn, PySem.W.mg_of X G aCCn, b0Cn, r0Cn⟩⟩
  have oCneq : CalM l.prog w K mg base CX0 1 Cn "__eq__" ["self", "other"] (spNsEq K Cn) := mCneq.cal (fun _ _ _ _ _ _ us hl => match us, hl with | [_, _], _ => rfl) fun fd F => ok_nsEq F TCn
  have oCnle : CalM l.prog w K mg base CX0 1 Cn "__le__" ["self", "other"] (spNsLe Cn) := mCnle.cal (fun _ _ _ _ _ _ us hl => match us, hl with | [_, _], _ => rfl) fun fd F => ok_nsLe F TCn
  have oCnor : CalM l.prog w K mg base CX0 3 Cn "__or__" ["self", "other"] (spNsOp Cn gOr) := mCnor.cal (fun _ _ _ _ _ _ us hl => match us, hl with | [_, _], _ => rfl) fun fd F => ok_nsOr F TCn mk1Cn
  have oCncontains : CalM l.prog w K mg base CX0 1 Cn "__contains__" ["self", "name"] (spNsIn Cn) := mCncontains.cal (fun _ _ _ _ _ _ us hl => match us, hl with | [_, _], _ => rfl) fun fd F => ok_nsIn F TCn
  have ON : NsO l.prog w K mg base Cn := ⟨oCneq, oCnle, oCnor, oCncontains, neCn, sfCn⟩
  have c__places : Cal l.prog w K mg base CX0 3 "_places" ["bodies"] (spPlaces K) := dDPlaces.cal X G (fun _ _ _ _ _ _ us hl => match us, hl with | [_], _ => rfl) fun fd F => ok_places F TCn mk1Cn
  have mk1Cp : CalC l.prog w K mg base CX0 5 "Program" Cp ["self", "procedures"] (spPgInit K Cp) [] := mICp.calC mkCp kcCp (PySem.W.mg_of X G aCCp) (fun _ _ _ _ _ _ us hl => match us, hl with | [_, _], _ => rfl) fun fd F => ok_pgInit F TCp c__checked_bodies c__check_callees c__places
  have oCpeq : CalM l.prog w K mg base CX0 2 Cp "__eq__" ["self", "other"] (spPgEq K Cp) := mCpeq.cal (fun _ _ _ _ _ _ us hl => match us, hl with | [_, _], _ => rfl) fun fd F => ok_pgEq F TCp
  have oCpgetitem : CalM l.prog w K mg base CX0 1 Cp "__getitem__" ["self", "name"] (spPgGet K Cp) := mCpgetitem.cal (fun _ _ _ _ _ _ us hl => match us, hl with | [_, _], _ => rfl) fun fd F => ok_pgGet F TCp
  have oCpcontains : CalM l.prog w K mg base CX0 1 Cp "__contains__" ["self", "name"] (spPgHas K Cp) := mCpcontains.cal (fun _ _ _ _ _ _ us hl => match us, hl with | [_, _], _ => rfl) fun fd F => ok_pgHas F TCp
  have oCplen : CalM l.prog w K mg base CX0 1 Cp "__len__" ["self"] (spPgLen K Cp) := mCplen.cal (fun _ _ _ _ _ _ us hl => match us, hl with | [_], _ => rfl) fun fd F => ok_pgLen F TCp
  have O : PgOps l.prog w K mg base Cp := ⟨oCpeq, oCpgetitem, oCpcontains, oCplen, neCp⟩
  have c_check_procedure : Cal l.prog w K mg base CX0 2 "check_procedure" ["program", "name"] (spCheck K Cp) := dDCheck_procedure.cal X G (fun _ _ _ _ _ _ us hl => match us, hl with | [_, _], _ => rfl) fun fd F => ok_check F O
  have c_checked_procedures : Cal l.prog w K mg base CX0 3 "checked_procedures" ["program", "names"] (spCheckeds K Cp Cn) := dDChecked_procedures.cal X G (fun _ _ _ _ _ _ us hl => match us, hl with | [_, _], _ => rfl) fun fd F => ok_checkeds F TCn mk1Cn c_check_procedure
  have q0EPaths_from : ∀ H, SqT K H t0EPaths_from [] := fun H => .inr ⟨o2EPaths_from, #[], n2EPaths_from, t4EPaths_from, t6EPaths_from, t5EPaths_from, Nat.zero_le _, .nil⟩
  subst t3EPaths_from
  have FDEPaths_from : FunD K "paths_from" "paths_from" (defArgs sPaths_from) (defBody sPaths_from) (defScope sPaths_from) [.ref t0EPaths_from] [] fEPaths_from _ := ⟨⟨ocEPaths_from, odEPaths_from, .ref tDEPaths_from, kVEPaths_from, dcEPaths_from, pmEPaths_from, anEPaths_from, cdEPaths_from, cuEPaths_from, slEPaths_from, rfl, ilEPaths_from, icEPaths_from, .inr ⟨by simp, tDEPaths_from, o1EPaths_from, _, n1EPaths_from, rfl, t1EPaths_from, t2EPaths_from, .cons rfl .nil⟩, .inl rfl⟩, ikEPaths_from⟩
  have okEPaths_from : FnOk l.prog w K mg base CX0 3 fEPaths_from _ ["program", "names", "kinds", "left_out"] (spPaths K Cp Cn) := ok_paths FDEPaths_from O ON vlen vlist
  obtain ⟨ds0EPaths_from, r0EPaths_from, b0EPaths_from⟩ := FDEPaths_from.binds1 (ps := ["program", "names", "kinds", "left_out"]) 3 0 (by simp) rfl fun _ _ _ _ _ _ _ us its hu hi => match us, its, hu, hi with | [_, _, _], [_], _, _ => ⟨_, rfl, rfl⟩
  have d_paths_from : CalD l.prog w K mg base CX0 3 "paths_from" ["program", "names", "kinds", "left_out"] (spPaths K Cp Cn) [.ref t0EPaths_from] := ⟨⟨fEPaths_from, _, ds0EPaths_from, okEPaths_from, PySem.W.mg_of X G iaEPaths_from, ikEPaths_from, b0EPaths_from, r0EPaths_from⟩⟩
  obtain ⟨ds1EPaths_from, r1EPaths_from, b1EPaths_from⟩ := FDEPaths_from.binds1 (ps := ["program", "names", "kinds", "left_out"]) 4 1 (by simp) rfl fun _ _ _ _ _ _ _ us its hu hi => match us, its, hu, hi with | [_, _, _, _], [_], _, _ => ⟨_, rfl, rfl⟩
  have d1_paths_from : CalD l.prog w K mg base CX0 3 "paths_from" ["program", "names", "kinds", "left_out"] (spPaths K Cp Cn) [] := ⟨⟨fEPaths_from, _, ds1EPaths_from, okEPaths_from, PySem.W.mg_of X G iaEPaths_from, ikEPaths_from, b1EPaths_from, r1EPaths_from⟩⟩
  have c_requiring_paths : Cal l.prog w K mg base CX0 4 "requiring_paths" ["program", "name", "spared"] (spReqP K Cp Cn) := dDRequiring_paths.cal X G (fun _ _ _ _ _ _ us hl => match us, hl with | [_, _, _], _ => rfl) fun fd F => ok_reqp F d1_paths_from vREQUIRING_KINDS qREQUIRING_KINDS
  have q0GBreaks : ∀ H, SqT K H t0GBreaks [] := fun H => .inr ⟨o2GBreaks, #[], n2GBreaks, t4GBreaks, t6GBreaks, t5GBreaks, Nat.zero_le _, .nil⟩
  have FDGBreaks : FunD K "breaks" "breaks" (defArgs sBreaks) (defBody sBreaks) (defScope sBreaks) [] [(("spared" : Str), V.ref t0GBreaks)] fGBreaks _ := ⟨⟨ocGBreaks, odGBreaks, .none, .ref kDGBreaks, dcGBreaks, pmGBreaks, anGBreaks, cdGBreaks, cuGBreaks, slGBreaks, rfl, ilGBreaks, icGBreaks, .inl ⟨rfl, rfl⟩, .inr ⟨kDGBreaks, rfl, fun q hq => by rw [List.mem_singleton.mp hq]; exact ⟨_, t3GBreaks, rfl⟩⟩⟩, ikGBreaks⟩
  have okGBreaks : FnOk l.prog w K mg base CX0 5 fGBreaks _ ["program", "name", "spared"] (spBreaks K Cp Cn) := ok_breaks FDGBreaks TCn O mk1Cn c_check_procedure c_checked_procedures c_requiring_paths
  obtain ⟨ds0GBreaks, r0GBreaks, b0GBreaks⟩ := FDGBreaks.binds0 (ps := ["program", "name", "spared"]) 2 (by simp) rfl fun _ _ _ _ _ _ us ks hu hk => match us, ks, hu, hk with | [_, _], [_], _, _ => ⟨_, _, _, _, _, _, rfl, rfl, rfl⟩
  have d_breaks : CalD l.prog w K mg base CX0 5 "breaks" ["program", "name", "spared"] (spBreaks K Cp Cn) [.ref t0GBreaks] := ⟨⟨fGBreaks, _, ds0GBreaks, okGBreaks, PySem.W.mg_of X G iaGBreaks, ikGBreaks, b0GBreaks, r0GBreaks⟩⟩
  obtain ⟨mvGBreaks, kbGBreaks⟩ := FDGBreaks.kbinds0 (ps := ["program", "name", "spared"]) 2 ["spared"] [] (fun vs _ zs => vs ++ zs) (by simp) (fun _ h => by cases h) (fun r1 _ r3 => r1.append r3) fun _ _ _ _ _ _ us mv ws hu hm hw => match us, mv, ws, hu, hm, hw with | [_, _], [], [_], _, _, _ => rfl
  have k_breaks : CalK l.prog w K mg base CX0 5 "breaks" ["program", "name", "spared"] (spBreaks K Cp Cn) 2 ["spared"] (fun vs zs => vs ++ zs) := ⟨⟨fGBreaks, _, _, okGBreaks, PySem.W.mg_of X G iaGBreaks, ikGBreaks, kbGBreaks⟩⟩
  have c__item : Cal l.prog w K mg base CX0 1 "_item" ["kind", "word", "values", "nodes"] (spItem K) := dDItem.cal X G (fun _ _ _ _ _ _ us hl => match us, hl with | [_, _, _, _], _ => rfl) fun fd F => ok_item F
  have c_rows_of_all : Cal l.prog w K mg base CX0 3 "rows_of_all" ["program", "values", "nodes"] (spRowsAll K Cp) := dDRows_of_all.cal X G (fun _ _ _ _ _ _ us hl => match us, hl with | [_, _, _], _ => rfl) fun fd F => ok_rowsAll F TCp O c__item
  have c__item_at : Cal l.prog w K mg base CX0 1 "_item_at" ["row", "index"] (spItemAt xMISSING) := dDItem_at.cal X G (fun _ _ _ _ _ _ us hl => match us, hl with | [_, _], _ => rfl) fun fd F => ok_itemAt F vlen vMISSING
  subst t3NDifference_path
  have FDNDifference_path : FunD K "difference_path" "difference_path" (defArgs sDifference_path) (defBody sDifference_path) (defScope sDifference_path) [.int 0, .int 0] [] fNDifference_path _ := ⟨⟨ocNDifference_path, odNDifference_path, .ref tDNDifference_path, kVNDifference_path, dcNDifference_path, pmNDifference_path, anNDifference_path, cdNDifference_path, cuNDifference_path, slNDifference_path, rfl, ilNDifference_path, icNDifference_path, .inr ⟨by simp, tDNDifference_path, o1NDifference_path, _, n1NDifference_path, rfl, t1NDifference_path, t2NDifference_path, (.cons ⟨tkNDifference_path0, rfl⟩ (.cons ⟨tkNDifference_path1, rfl⟩ .nil))⟩, .inl rfl⟩, ikNDifference_path⟩
  have okNDifference_path : FnOk l.prog w K mg base CX0 2 fNDifference_path _ ["rows", "others", "start", "other_start"] (spDiffG K) := ok_diffG FDNDifference_path vlen vmax vrange c__item_at qMISSING
  obtain ⟨ds1NDifference_path, r1NDifference_path, b1NDifference_path⟩ := FDNDifference_path.binds1 (ps := ["rows", "others", "start", "other_start"]) 4 2 (by simp) rfl fun _ _ _ _ _ _ _ us its hu hi => match us, its, hu, hi with | [_, _, _, _], [_, _], _, _ => ⟨_, rfl, rfl⟩
  have d1_difference_path : CalD l.prog w K mg base CX0 2 "difference_path" ["rows", "others", "start", "other_start"] (spDiffG K) [] := ⟨⟨fNDifference_path, _, ds1NDifference_path, okNDifference_path, PySem.W.mg_of X G iaNDifference_path, ikNDifference_path, b1NDifference_path, r1NDifference_path⟩⟩
  have mk1CS : CalC l.prog w K mg base CX0 6 "Side" CS ["self", "program", "name", "numbers"] (spSdInit K Cp Cn CS) [] := mICS.calC mkCS kcCS (PySem.W.mg_of X G aCCS) (fun _ _ _ _ _ _ us hl => match us, hl with | [_, _, _, _], _ => rfl) fun fd F => ok_sdInit F TCS TCp d_breaks (fun H => .emp t4GBreaks t6GBreaks q0GBreaks)
  have oCSfails : CalM l.prog w K mg base CX0 2 CS "fails" ["self", "name", "broken"] (spSdFails K Cp Cn CS) := mCSfails.cal (fun _ _ _ _ _ _ us hl => match us, hl with | [_, _, _], _ => rfl) fun fd F => ok_sdFails F TCS vany ON
  have oCSworld_rows : CalM l.prog w K mg base CX0 4 CS "world_rows" ["self", "broken"] (spSdRows K Cp Cn CS) := mCSworld_rows.cal (fun _ _ _ _ _ _ us hl => match us, hl with | [_, _], _ => rfl) fun fd F => ok_sdRows F TCS TCp venumerate oCSfails vGAP qGAP c_rows_of_all
  have c__difference : Cal l.prog w K mg base CX0 5 "_difference" ["one", "two", "broken"] (spDifG K Cp Cn CS) := dDDifference.cal X G (fun _ _ _ _ _ _ us hl => match us, hl with | [_, _, _], _ => rfl) fun fd F => ok_difG F TCS oCSfails oCSworld_rows d1_difference_path
  have c_parting : Cal l.prog w K mg base CX0 8 "parting" ["program", "name", "other", "other_name"] (spPartG K Cp) := dDParting.cal X G (fun _ _ _ _ _ _ us hl => match us, hl with | [_, _, _, _], _ => rfl) fun fd F => ok_partG F TCn TCp TCS venumerate mk1Cn mk1CS c_check_procedure c__difference
  have c_alike : Cal l.prog w K mg base CX0 9 "alike" ["program", "name", "other", "other_name"] (spAlikeG K Cp) := dDAlike.cal X G (fun _ _ _ _ _ _ us hl => match us, hl with | [_, _, _, _], _ => rfl) fun fd F => ok_alikeG F c_parting
  have c_source : Cal l.prog w K mg base CX0 1 "_law_source" ["_law_script"] (spSource K) := dDSource.cal X G (fun _ _ _ _ _ _ us hl => match us, hl with | [_], _ => rfl) fun fd F => ok_source F vint venumerate
  have c_draw : Cal l.prog w K mg base CX0 1 "_law_draw" ["_law_source_here", "_law_many"] spDraw := dDDraw.cal X G (fun _ _ _ _ _ _ us hl => match us, hl with | [_, _], _ => rfl) fun fd F => ok_draw F vint
  have c_name : Cal l.prog w K mg base CX0 2 "_law_name" ["_law_source_here", "_law_taken"] (spName K) := dDName.cal X G (fun _ _ _ _ _ _ us hl => match us, hl with | [_, _], _ => rfl) fun fd F => ok_name F c_draw vrange
  have c_names : Cal l.prog w K mg base CX0 3 "_law_names" ["_law_source_here", "_law_many"] spNames := dDNames.cal X G (fun _ _ _ _ _ _ us hl => match us, hl with | [_, _], _ => rfl) fun fd F => ok_names F c_name vrange vlist
  exact ok_law FL TCp mk1Cp c_source c_draw c_names c_alike c_parting vrange
end Mf
open PySem PySem.W PyProof.Rows
set_option maxRecDepth 100000 in
set_option maxHeartbeats 0 in
theorem PySem.Challenge.cw_midfall_k90_reads_in_another_order_holds : PySem.Challenge.rw_midfall_k90_reads_in_another_order.Holds := by
  w_on; o_law; k_head; (case hw => w_witness2)
  k_fill
  refine Mf.walk (n := 10) (l := PySem.Challenge.rw_midfall_k90_reads_in_another_order) rfl rfl ⟨rfl, by decide, by decide⟩ (fun w h Y => PySem.W.kIn_of Y) ?F
  case F =>
    intro w mg fa h KX G hmg
    refine' Mf.all_mk KX G hmg ?aCCn ?pgCn ?hdCn ?poCn ?saCn ?mkCn ?kcCn ?haCn ?hmCn ?ciCn ?ctCn ?kLCn ?kTCn ?neCn ?sfCn ?nCnmembers ?iaCn ?iiCn ?ilCn ?icCn ?ikCn ?t1Cn ?t2Cn ?t3Cn ?t4Cn ?t5Cn ?t6Cn ?aCneq ?lCneq ?cCneq ?kCneq ?iCneq ?nCneq ?aCnle ?lCnle ?cCnle ?kCnle ?iCnle ?nCnle ?aCnor ?lCnor ?cCnor ?kCnor ?iCnor ?nCnor ?aCncontains ?lCncontains ?cCncontains ?kCncontains ?iCncontains ?nCncontains ?aCCp ?pgCp ?hdCp ?poCp ?saCp ?mkCp ?kcCp ?haCp ?hmCp ?ciCp ?ctCp ?kLCp ?kTCp ?neCp ?sfCp ?nCp_bodies ?nCpnames ?nCpplaces ?aICp ?lICp ?cICp ?kICp ?iICp ?nICp ?aCpeq ?lCpeq ?cCpeq ?kCpeq ?iCpeq ?nCpeq ?aCpgetitem ?lCpgetitem ?cCpgetitem ?kCpgetitem ?iCpgetitem ?nCpgetitem ?aCpcontains ?lCpcontains ?cCpcontains ?kCpcontains ?iCpcontains ?nCpcontains ?aCplen ?lCplen ?cCplen ?kCplen ?iCplen ?nCplen ?aCCS ?pgCS ?hdCS ?poCS ?saCS ?mkCS ?kcCS ?haCS ?hmCS ?ciCS ?ctCS ?kLCS ?kTCS ?neCS ?sfCS ?nCSprogram ?nCSname ?nCSnumbers ?nCSstart ?nCSweak_points ?aICS ?lICS ?cICS ?kICS ?iICS ?nICS ?aCSfails ?lCSfails ?cCSfails ?kCSfails ?iCSfails ?nCSfails ?aCSworld_rows ?lCSworld_rows ?cCSworld_rows ?kCSworld_rows ?iCSworld_rows ?nCSworld_rows ?hn ?htk ?aDIs_name ?lDIs_name ?cDIs_name ?kDIs_name ?aDIs_step ?lDIs_step ?cDIs_step ?kDIs_step ?aDIs_body ?lDIs_body ?cDIs_body ?kDIs_body ?aDChecked_bodies ?lDChecked_bodies ?cDChecked_bodies ?kDChecked_bodies ?aDCheck_callees ?lDCheck_callees ?cDCheck_callees ?kDCheck_callees ?aDPlaces ?lDPlaces ?cDPlaces ?kDPlaces ?aDSource ?lDSource ?cDSource ?kDSource ?aDDraw ?lDDraw ?cDDraw ?kDDraw ?aDName ?lDName ?cDName ?kDName ?aDNames ?lDNames ?cDNames ?kDNames ?aDCheck_procedure ?lDCheck_procedure ?cDCheck_procedure ?kDCheck_procedure ?aDChecked_procedures ?lDChecked_procedures ?cDChecked_procedures ?kDChecked_procedures ?aDRequiring_paths ?lDRequiring_paths ?cDRequiring_paths ?kDRequiring_paths ?aDItem ?lDItem ?cDItem ?kDItem ?aDRows_of_all ?lDRows_of_all ?cDRows_of_all ?kDRows_of_all ?aDItem_at ?lDItem_at ?cDItem_at ?kDItem_at ?aDDifference ?lDDifference ?cDDifference ?kDDifference ?aDParting ?lDParting ?cDParting ?kDParting ?aDAlike ?lDAlike ?cDAlike ?kDAlike ?aDLaw ?lDLaw ?cDLaw ?kDLaw ?iaEPaths_from ?ilEPaths_from ?icEPaths_from ?ikEPaths_from ?t1EPaths_from ?t2EPaths_from ?t3EPaths_from ?t4EPaths_from ?t5EPaths_from ?t6EPaths_from ?iaGBreaks ?ilGBreaks ?icGBreaks ?ikGBreaks ?t3GBreaks ?t4GBreaks ?t5GBreaks ?t6GBreaks ?iaNDifference_path ?ilNDifference_path ?icNDifference_path ?ikNDifference_path ?t1NDifference_path ?t2NDifference_path ?t3NDifference_path ?aLONGEST_NAME ?aMOST_STEPS ?aMOST_PROCEDURES ?aKINDS ?lKINDS ?dKINDS ?iKINDS ?cKINDS ?aCALLING_KINDS ?lCALLING_KINDS ?dCALLING_KINDS ?iCALLING_KINDS ?cCALLING_KINDS ?aREQUIRING_KINDS ?lREQUIRING_KINDS ?dREQUIRING_KINDS ?iREQUIRING_KINDS ?cREQUIRING_KINDS ?aGAP ?lGAP ?dGAP ?iGAP ?cGAP ?aMISSING ?lMISSING ?dMISSING ?iMISSING ?cMISSING ?zint ?zenumerate ?zrange ?zlist ?ztuple ?zsorted ?zstr ?zall ?zany ?zisinstance ?zbool ?zlen ?zset ?zmax
    (case aCCn => k_is)
    (case pgCn => k_is)
    (case hdCn => k_is)
    (case poCn => k_is)
    (case saCn => k_is)
    (case mkCn => k_is)
    (case kcCn => k_is)
    (case haCn => k_is)
    (case hmCn => k_is)
    (case ciCn => k_is)
    (case ctCn => k_is)
    (case kLCn => k_is)
    (case kTCn => k_is)
    (case neCn => k_is)
    (case sfCn => k_is)
    (case nCnmembers => k_is)
    (case iaCn => k_is)
    (case iiCn => k_is)
    (case ilCn => k_is)
    (case icCn => k_is)
    (case ikCn => k_is)
    (case t1Cn => k_is)
    (case t2Cn => rfl)
    (case t3Cn => rfl)
    (case t4Cn => k_is)
    (case t5Cn => rfl)
    (case t6Cn => rfl)
    (case aCneq => k_is)
    (case lCneq => k_is)
    (case cCneq => k_is)
    (case kCneq => k_is)
    (case iCneq => k_is)
    (case nCneq => k_is)
    (case aCnle => k_is)
    (case lCnle => k_is)
    (case cCnle => k_is)
    (case kCnle => k_is)
    (case iCnle => k_is)
    (case nCnle => k_is)
    (case aCnor => k_is)
    (case lCnor => k_is)
    (case cCnor => k_is)
    (case kCnor => k_is)
    (case iCnor => k_is)
    (case nCnor => k_is)
    (case aCncontains => k_is)
    (case lCncontains => k_is)
    (case cCncontains => k_is)
    (case kCncontains => k_is)
    (case iCncontains => k_is)
    (case nCncontains => k_is)
    (case aCCp => k_is)
    (case pgCp => k_is)
    (case hdCp => k_is)
    (case poCp => k_is)
    (case saCp => k_is)
    (case mkCp => k_is)
    (case kcCp => k_is)
    (case haCp => k_is)
    (case hmCp => k_is)
    (case ciCp => k_is)
    (case ctCp => k_is)
    (case kLCp => k_is)
    (case kTCp => k_is)
    (case neCp => k_is)
    (case sfCp => k_is)
    (case nCp_bodies => k_is)
    (case nCpnames => k_is)
    (case nCpplaces => k_is)
    (case aICp => k_is)
    (case lICp => k_is)
    (case cICp => k_is)
    (case kICp => k_is)
    (case iICp => k_is)
    (case nICp => k_is)
    (case aCpeq => k_is)
    (case lCpeq => k_is)
    (case cCpeq => k_is)
    (case kCpeq => k_is)
    (case iCpeq => k_is)
    (case nCpeq => k_is)
    (case aCpgetitem => k_is)
    (case lCpgetitem => k_is)
    (case cCpgetitem => k_is)
    (case kCpgetitem => k_is)
    (case iCpgetitem => k_is)
    (case nCpgetitem => k_is)
    (case aCpcontains => k_is)
    (case lCpcontains => k_is)
    (case cCpcontains => k_is)
    (case kCpcontains => k_is)
    (case iCpcontains => k_is)
    (case nCpcontains => k_is)
    (case aCplen => k_is)
    (case lCplen => k_is)
    (case cCplen => k_is)
    (case kCplen => k_is)
    (case iCplen => k_is)
    (case nCplen => k_is)
    (case aCCS => k_is)
    (case pgCS => k_is)
    (case hdCS => k_is)
    (case poCS => k_is)
    (case saCS => k_is)
    (case mkCS => k_is)
    (case kcCS => k_is)
    (case haCS => k_is)
    (case hmCS => k_is)
    (case ciCS => k_is)
    (case ctCS => k_is)
    (case kLCS => k_is)
    (case kTCS => k_is)
    (case neCS => k_is)
    (case sfCS => k_is)
    (case nCSprogram => k_is)
    (case nCSname => k_is)
    (case nCSnumbers => k_is)
    (case nCSstart => k_is)
    (case nCSweak_points => k_is)
    (case aICS => k_is)
    (case lICS => k_is)
    (case cICS => k_is)
    (case kICS => k_is)
    (case iICS => k_is)
    (case nICS => k_is)
    (case aCSfails => k_is)
    (case lCSfails => k_is)
    (case cCSfails => k_is)
    (case kCSfails => k_is)
    (case iCSfails => k_is)
    (case nCSfails => k_is)
    (case aCSworld_rows => k_is)
    (case lCSworld_rows => k_is)
    (case cCSworld_rows => k_is)
    (case kCSworld_rows => k_is)
    (case iCSworld_rows => k_is)
    (case nCSworld_rows => k_is)
    (case hn => k_is)
    (case htk => k_is)
    (case aDIs_name => k_is)
    (case lDIs_name => k_is)
    (case cDIs_name => k_is)
    (case kDIs_name => k_is)
    (case aDIs_step => k_is)
    (case lDIs_step => k_is)
    (case cDIs_step => k_is)
    (case kDIs_step => k_is)
    (case aDIs_body => k_is)
    (case lDIs_body => k_is)
    (case cDIs_body => k_is)
    (case kDIs_body => k_is)
    (case aDChecked_bodies => k_is)
    (case lDChecked_bodies => k_is)
    (case cDChecked_bodies => k_is)
    (case kDChecked_bodies => k_is)
    (case aDCheck_callees => k_is)
    (case lDCheck_callees => k_is)
    (case cDCheck_callees => k_is)
    (case kDCheck_callees => k_is)
    (case aDPlaces => k_is)
    (case lDPlaces => k_is)
    (case cDPlaces => k_is)
    (case kDPlaces => k_is)
    (case aDSource => k_is)
    (case lDSource => k_is)
    (case cDSource => k_is)
    (case kDSource => k_is)
    (case aDDraw => k_is)
    (case lDDraw => k_is)
    (case cDDraw => k_is)
    (case kDDraw => k_is)
    (case aDName => k_is)
    (case lDName => k_is)
    (case cDName => k_is)
    (case kDName => k_is)
    (case aDNames => k_is)
    (case lDNames => k_is)
    (case cDNames => k_is)
    (case kDNames => k_is)
    (case aDCheck_procedure => k_is)
    (case lDCheck_procedure => k_is)
    (case cDCheck_procedure => k_is)
    (case kDCheck_procedure => k_is)
    (case aDChecked_procedures => k_is)
    (case lDChecked_procedures => k_is)
    (case cDChecked_procedures => k_is)
    (case kDChecked_procedures => k_is)
    (case aDRequiring_paths => k_is)
    (case lDRequiring_paths => k_is)
    (case cDRequiring_paths => k_is)
    (case kDRequiring_paths => k_is)
    (case aDItem => k_is)
    (case lDItem => k_is)
    (case cDItem => k_is)
    (case kDItem => k_is)
    (case aDRows_of_all => k_is)
    (case lDRows_of_all => k_is)
    (case cDRows_of_all => k_is)
    (case kDRows_of_all => k_is)
    (case aDItem_at => k_is)
    (case lDItem_at => k_is)
    (case cDItem_at => k_is)
    (case kDItem_at => k_is)
    (case aDDifference => k_is)
    (case lDDifference => k_is)
    (case cDDifference => k_is)
    (case kDDifference => k_is)
    (case aDParting => k_is)
    (case lDParting => k_is)
    (case cDParting => k_is)
    (case kDParting => k_is)
    (case aDAlike => k_is)
    (case lDAlike => k_is)
    (case cDAlike => k_is)
    (case kDAlike => k_is)
    (case aDLaw => k_is)
    (case lDLaw => k_is)
    (case cDLaw => k_is)
    (case kDLaw => k_is)
    (case iaEPaths_from => k_is)
    (case ilEPaths_from => k_is)
    (case icEPaths_from => k_is)
    (case ikEPaths_from => k_is)
    (case t1EPaths_from => k_is)
    (case t2EPaths_from => rfl)
    (case t3EPaths_from => rfl)
    (case t4EPaths_from => k_is)
    (case t5EPaths_from => rfl)
    (case t6EPaths_from => rfl)
    (case iaGBreaks => k_is)
    (case ilGBreaks => k_is)
    (case icGBreaks => k_is)
    (case ikGBreaks => k_is)
    (case t3GBreaks => k_is)
    (case t4GBreaks => k_is)
    (case t5GBreaks => rfl)
    (case t6GBreaks => rfl)
    (case iaNDifference_path => k_is)
    (case ilNDifference_path => k_is)
    (case icNDifference_path => k_is)
    (case ikNDifference_path => k_is)
    (case t1NDifference_path => k_is)
    (case t2NDifference_path => rfl)
    (case t3NDifference_path => rfl)
    (case aLONGEST_NAME => k_is)
    (case aMOST_STEPS => k_is)
    (case aMOST_PROCEDURES => k_is)
    (case aKINDS => k_is)
    (case lKINDS => k_is)
    (case dKINDS => rfl)
    (case iKINDS => rfl)
    (case cKINDS => rfl)
    (case aCALLING_KINDS => k_is)
    (case lCALLING_KINDS => k_is)
    (case dCALLING_KINDS => rfl)
    (case iCALLING_KINDS => rfl)
    (case cCALLING_KINDS => rfl)
    (case aREQUIRING_KINDS => k_is)
    (case lREQUIRING_KINDS => k_is)
    (case dREQUIRING_KINDS => rfl)
    (case iREQUIRING_KINDS => rfl)
    (case cREQUIRING_KINDS => rfl)
    (case aGAP => k_is)
    (case lGAP => k_is)
    (case dGAP => rfl)
    (case iGAP => rfl)
    (case cGAP => rfl)
    (case aMISSING => k_is)
    (case lMISSING => k_is)
    (case dMISSING => rfl)
    (case iMISSING => rfl)
    (case cMISSING => rfl)
    (case zint => k_is)
    (case zenumerate => k_is)
    (case zrange => k_is)
    (case zlist => k_is)
    (case ztuple => k_is)
    (case zsorted => k_is)
    (case zstr => k_is)
    (case zall => k_is)
    (case zany => k_is)
    (case zisinstance => k_is)
    (case zbool => k_is)
    (case zlen => k_is)
    (case zset => k_is)
    (case zmax => k_is)
