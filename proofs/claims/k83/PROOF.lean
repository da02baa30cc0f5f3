import PyProof.Rows.All
import Wide.All
import OpenK.AllK
import Wide.FinOn
import HandS.ForExc
import HandS.ForMost
import HandS.IsInst
import HandS.Wide
import HandS.Walk
import HandS.TupAny
import HandS.Defaults
import HandS.SlotsOwn
import HandS.Codes
import HandS.RaiseMore
import HandS.Set
import HandS.More
import HandS.SetTxt0
import HandS.SetFor
import PyProof.Rows.SortShellAny
import PyProof.InstEq
import HandS.Iter
import KE.GoesEnumKw
import KE.GoesMore
import PyProof.Draws
import KE.KDictWalk
import PyProof.ListRange
import PyProof.CollectWalk
import PyProof.TupleCall
import KE.KDictList
import KE.KEqDict
import HandS.Base
import HandS.Call
import HandS.List
import HandS.Dict
import PyProof.TupleOfSeq
import HandS.Text
import HandS.FStr
import HandS.DictComp
import HandS.Conv
import HandS.Flow
import HandS.Words
import HandS.Deep
import HandS.MakeKwOnly
import PyProof.P3In
import HandS.Small
import HandS.Style
import PySem.Challenge.RW_midfall_k83_reads_first_told
set_option Elab.async false
set_option maxRecDepth 100000
/-! Heaps with a source of draws; calls by one fact; texts that are names. -/
namespace Mf
open PySem L2

/-! ### heaps -/
/-- all that was tracked but what stands at a is as it was -/
def Kp (a : Addr) (H H' : Hp) : Prop := ∀ b o, b ≠ a → H b = some o → H' b = some o
theorem Kp.refl {a : Addr} {H : Hp} : Kp a H H := fun _ _ _ h => h
theorem Kp.trans {a : Addr} {H H1 H2 : Hp} (x : Kp a H H1) (y : Kp a H1 H2) : Kp a H H2 := fun b o n h => y b o n (x b o n h)
theorem Kp.same {a : Addr} {H H' : Hp} (x : Same H H') : Kp a H H' := fun b o _ h => x b o h
theorem Kp.then {a : Addr} {H H1 H2 : Hp} (x : Kp a H H1) (y : Same H1 H2) : Kp a H H2 := x.trans (.same y)
theorem Kp.new {a p : Addr} {H : Hp} {o : HO} (h : H p = none) : Kp a H (upd H p o) := fun b u _ e => by rw [upd_ne (ne_of_none e h)]; exact e
theorem Kp.put {a : Addr} {H H1 : Hp} {o : HO} (x : Kp a H H1) : Kp a H (upd H1 a o) := fun b u n e => by rw [upd_ne n]; exact x b u n e
/-- p was not there at H: it may change -/
theorem Kp.mut {a p : Addr} {H H1 : Hp} {o : HO} (x : Kp a H H1) (h : H p = none) : Kp a H (upd H1 p o) := fun b u n e => by rw [upd_ne (ne_of_none e h)]; exact x b u n e
theorem Kp.lst {K : PySem.W.Frag} {a t : Addr} {H H' : Hp} {xs : List V} (x : Kp a H H') (n : t ≠ a) (h : SqL K H t xs) : SqL K H' t xs := by
  rcases h with (h | ⟨o, h⟩) | h
  · exact .inl (.inl (x _ _ n h))
  · exact .inl (.inr ⟨o, x _ _ n h⟩)
  · exact .inr h
theorem Kp.tup {K : PySem.W.Frag} {a t : Addr} {H H' : Hp} {xs : List V} (x : Kp a H H') (n : t ≠ a) (h : SqT K H t xs) : SqT K H' t xs := by
  rcases h with (h | ⟨o, h⟩) | h
  · exact .inl (.inl (x _ _ n h))
  · exact .inl (.inr ⟨o, x _ _ n h⟩)
  · exact .inr h
theorem _root_.L2.Same.new {p : Addr} {H : Hp} {o : HO} (h : H p = none) : Same H (upd H p o) := fun b u e => by rw [upd_ne (ne_of_none e h)]; exact e
theorem _root_.L2.Same.mut {p : Addr} {H H1 : Hp} {o : HO} (x : Same H H1) (h : H p = none) : Same H (upd H1 p o) := fun b u e => by rw [upd_ne (ne_of_none e h)]; exact x b u e
theorem _root_.L2.Same.tup {K : PySem.W.Frag} {t : Addr} {H H' : Hp} {xs : List V} (x : Same H H') (h : SqT K H t xs) : SqT K H' t xs := by
  rcases h with (h | ⟨o, h⟩) | h
  · exact .inl (.inl (x _ _ h))
  · exact .inl (.inr ⟨o, x _ _ h⟩)
  · exact .inr h
theorem ne_none {H : Hp} {p a : Addr} {o : HO} (h : H p = none) (h' : H a = some o) : p ≠ a := fun e => by rw [e, h'] at h; cases h

/-! ### the source of draws -/
/-- at a: a source that has n draws left, and more -/
def Src (H : Hp) (a : Addr) (n : Nat) : Prop := ∃ g s c : Int, H a = some (.lst [.int g, .int s, .int c]) ∧ 0 ≤ s ∧ s < 2147483647 ∧ 0 ≤ c ∧ c + n ≤ 1099511627776
theorem Src.mono {H : Hp} {a : Addr} {n m : Nat} (x : Src H a n) (h : m ≤ n) : Src H a m := let ⟨g, s, c, e, a1, a2, a3, a4⟩ := x; ⟨g, s, c, e, a1, a2, a3, by omega⟩
theorem Src.same {H H' : Hp} {a : Addr} {n : Nat} (x : Src H a n) (h : Same H H') : Src H' a n := let ⟨g, s, c, e, r⟩ := x; ⟨g, s, c, h _ _ e, r⟩
theorem Src.ne {H : Hp} {a p : Addr} {n : Nat} (x : Src H a n) (h : H p = none) : p ≠ a := let ⟨_, _, _, e, _⟩ := x; ne_none h e
theorem Src.new {H : Hp} {a p : Addr} {n : Nat} {o : HO} (x : Src H a n) (h : H p = none) : Src (upd H p o) a n := x.same (Same.new h)
theorem Src.put {H : Hp} {a p : Addr} {n : Nat} {o : HO} (x : Src H a n) (h : p ≠ a) : Src (upd H p o) a n := let ⟨g, s, c, e, r⟩ := x; ⟨g, s, c, by rw [upd_ne (Ne.symm h)]; exact e, r⟩

/-! ### a def that is called by its name: one fact -/
structure Cal (P : Program) (w : World) (K : PySem.W.Frag) (mg : Str → Option Value) (base : Heap) (CX : CXT) (k : Nat) (x : Str) (ps : List Str) (sp : Sp) : Prop where
  ex : ∃ (f : Addr) (fd : FuncData), FnOk P w K mg base CX k f fd ps sp ∧ mg x = some (.ref f) ∧ PySem.W.keepIn K (.ref f) = true ∧ Binds K fd ps []
theorem pe_cal {X : Cx} {CX : CXT} {k : Nat} {x : Str} {ps : List Str} {sp : Sp} {E : XK} {e : Expr} {es : List Expr} {t : TA} {p pos : Pos} (c : Cal X.prog X.w X.K X.mg X.base CX k x ps sp) (hr : Room k X.A) (hx : Passes CX X E) (ha : PA X (e :: es) t) (hg : Gl X x := by rfl)
    (hdb : (x == ("__debug__" : Str)) = false := by decide) (he : starEach (e :: es) X.env = (false, eval e X.env) :: starEach es X.env := by rfl) (hpl : (backTo pos (starEach es X.env)).any (·.1) = false := by rfl) :
    PE X (.Call (.Name x p) (e :: es) [] pos) (tCall sp [] E t) := by
  obtain ⟨f, fd, F, m, kp, b⟩ := c.ex
  exact pe_call F hr hg m kp b .nil hx ha hdb he hpl
theorem Cal.mono {P : Program} {w : World} {K : PySem.W.Frag} {mg : Str → Option Value} {base : Heap} {CX : CXT} {k j : Nat} {x : Str} {ps : List Str} {sp : Sp} (c : Cal P w K mg base CX k x ps sp) (h : k ≤ j) : Cal P w K mg base CX j x ps sp :=
  let ⟨f, fd, F, m, kp, b⟩ := c.ex
  ⟨⟨f, fd, F.mono h, m, kp, b⟩⟩

/-! ### names -/
def Low (c : Nat) : Prop := 97 ≤ c ∧ c ≤ 122
def IsName (z : Str) : Prop := 1 ≤ z.cps.size ∧ z.cps.size ≤ 8 ∧ ∀ c ∈ z.cps.toList, Low c
instance (z : Str) : Decidable (IsName z) := by unfold IsName Low; infer_instance
theorem IsName.len {z : Str} (h : IsName z) : z.length ≤ 8 := h.2.1

theorem alpha_at {i : Int} (h0 : 0 ≤ i) (h : i < 26) : ∃ c, atI ("abcdefghijklmnopqrstuvwxyz" : Str).cps.toList i = some c ∧ Low c := by
  obtain ⟨n, rfl⟩ := Int.eq_ofNat_of_zero_le h0
  have e : ∀ n : Fin 26, atI ("abcdefghijklmnopqrstuvwxyz" : Str).cps.toList ((n.val : Nat) : Int) = some (97 + n.val) := by decide +kernel
  exact ⟨97 + n, e ⟨n, by omega⟩, by unfold Low; omega⟩

theorem atI_mem {α : Type} {xs : List α} {v : Int} (h0 : 0 ≤ v) (h : v < xs.length) : ∃ x ∈ xs, atI xs v = some x := by
  obtain ⟨n, rfl⟩ := Int.eq_ofNat_of_zero_le h0
  have hn : n < xs.length := by omega
  refine ⟨xs[n], List.getElem_mem hn, ?_⟩
  exact atI_nat (List.getElem?_eq_getElem hn)
theorem inV_str {z : Str} {zs : List Str} : inV (.str z) (zs.map V.str) = decide (z ∈ zs) := by
  unfold inV
  induction zs with
  | nil => rfl
  | cons y ys ih =>
    rw [List.map_cons, List.any_cons, ih]
    show ((y == z) || _) = _
    by_cases h : y = z
    · subst h; simp
    · have h' : ¬ z = y := fun e => h e.symm
      simp [h, h']
theorem tl_inj {x y : Str} (h : x.cps.toList = y.cps.toList) : x = y := by
  cases x; cases y
  simp only [Str.mk.injEq]
  exact Array.toList_inj.mp h
theorem join_nil (ys : List Str) : (Txt.join ("" : Str) ys).cps.toList = (ys.map fun y => y.cps.toList).flatten := by
  rw [TL.join_eq, show (Str.join ("" : Str) ys).cps.toList = TL.tl (Str.join ("" : Str) ys) from rfl, TL.tl_join]
  show TL.joinL [] (ys.map TL.tl) = _
  generalize ys.map TL.tl = l
  induction l with
  | nil => rfl
  | cons p r ih =>
    cases r with
    | nil => simp [TL.joinL]
    | cons q r => show p ++ ([] ++ TL.joinL [] (q :: r)) = _; rw [ih]; simp
theorem join_signs (cs : List Nat) : Txt.join ("" : Str) (cs.map fun c => (⟨#[c]⟩ : Str)) = ⟨cs.toArray⟩ := by
  refine tl_inj ?_
  rw [join_nil, List.map_map]
  show (cs.map fun c => [c]).flatten = cs
  induction cs with
  | nil => rfl
  | cons c cs ih => rw [List.map_cons, List.flatten_cons, ih]; rfl
theorem str_add (x y : Str) : (x ++ y).cps.toList = x.cps.toList ++ y.cps.toList := TL.tl_append x y
theorem len_tl (z : Str) : z.length = z.cps.toList.length := by show z.cps.size = _; rw [Array.length_toList]

/-! ### rules whose reading names the written part (for comprehensions' blocks) -/
section
variable (K : PySem.W.Frag) {X : Cx}
theorem ixl (h : X.K = K := by rfl) : IxR X (rIxL K) := h ▸ ix_list
theorem ixt (h : X.K = K := by rfl) : IxR X (rIxT K) := h ▸ ix_tup
theorem oin (h : X.K = K := by rfl) : OpR X (compareOp .In) (rIn K false) := h ▸ op_in_seq
theorem nin (h : X.K = K := by rfl) : OpR X (compareOp .NotIn) (rIn K true) := h ▸ op_notIn_seq
def rLenK : List V → Hp → VK → Prop := fun xs H Q => ∃ p ys, xs = [.ref p] ∧ (SqL K H p ys ∨ SqT K H p ys) ∧ Q (.int (ys.length : Nat)) H
theorem k_len (h : X.K = K := by rfl) : CallR X (.builtin "len") (rLenK K) := h ▸ call_len_seq
def rListK : List V → Hp → VK → Prop := fun xs H Q => ∃ p ys, xs = [.ref p] ∧ (SqL K H p ys ∨ SqT K H p ys) ∧ ∀ l, H l = none → Q (.ref l) (upd H l (.lst ys))
theorem k_list (h : X.K = K := by rfl) : CallR X (.type "list") (rListK K) := h ▸ call_list_of
def rTupK : List V → Hp → VK → Prop := fun xs H Q => ∃ p ys, xs = [.ref p] ∧ ((SqL K H p ys ∧ ∀ l, H l = none → Q (.ref l) (upd H l (.tup ys))) ∨ (SqT K H p ys ∧ Q (.ref p) H))
theorem k_tuple (h : X.K = K := by rfl) : CallR X (.type "tuple") (rTupK K) := h ▸ call_tuple_of
theorem k_isi (h : X.K = K := by rfl) : CallR X (.builtin "isinstance") (rIsi K) := h ▸ call_isi
theorem k_all (hc : X.calm = true := by rfl) (h : X.K = K := by rfl) : CallR X (.builtin "all") (rAll K) := h ▸ cr_all hc
theorem k_any (hc : X.calm = true := by rfl) (h : X.K = K := by rfl) : CallR X (.builtin "any") (rAny K) := h ▸ cr_any hc
theorem k_sortedS (h : X.K = K := by rfl) : CallR X (.builtin "sorted") (rSortedS K) := h ▸ cr_sortedS
theorem eqD {k : Nat} (hr : Room k X.A) (h : X.K = K := by rfl) : OpR X (compareOp .Eq) (rEqD K) := h ▸ op_eqD hr.units
theorem neD {k : Nat} (hr : Room k X.A) (h : X.K = K := by rfl) : OpR X (compareOp .NotEq) (rNeD K) := h ▸ op_neD hr.units
theorem fldK {e : Expr} {ta : TE} {f : Str} {pos : Pos} (he : PE X e ta) (hb : attributeBase e f X.env (eval e X.env) = eval e X.env := by rfl) (h : X.K = K := by rfl) : PE X (.Attribute e f pos) (tFld K ta f) := h ▸ pe_fld he hb
end
theorem yes_then {σ : L2.St} {H : Hp} {A B : Hp → Prop} (h : A H) : tYes σ H (fun b H3 => if b = true then A H3 else B H3) := by
  show (if true = true then A H else B H)
  rw [if_pos rfl]
  exact h
end Mf

/-! Sets of texts built by set(xs), and sorted(..) of them. -/
namespace Mf
open PySem PySem.Spec PyProof.Rows L2 PySem.Froz

section
variable {P : Program} {w : World} {A : Around} {E : Value → Shared → Prop} {s : Shared} {a : Addr} {l : List Str} {k : Str} {u : Tok}

/-- a set of the texts l (each once) at a -/
def TxR (P : Program) (w : World) (h : Heap) (a : Addr) (l : List Str) : Prop :=
  (∃ D : SD, h.get? a = some (sObj "set" D) ∧ TxOk P w D l ∧ Ris D.2.2.place.toList ∧ (w.params.followText "set-order" = true ∨ D.2.2.led = true)) ∧ l.Nodup ∧ l.length < scanBound

theorem TxR.keep {h h' : Heap} (R : TxR P w h a l) (q : ∀ o, h.get? a = some o → h'.get? a = some o) : TxR P w h' a l :=
  let ⟨⟨D, e, z⟩, n, f⟩ := R
  ⟨⟨D, q _ e, z⟩, n, f⟩

theorem add_order (D : SD) (x : Int) (v : Value) (r : Ris D.2.2.place.toList) : Ris (addTx x v D).2.2.place.toList ∧ (addTx x v D).2.2.led = D.2.2.led := by
  obtain ⟨es, ep, t⟩ := D
  have r1 := layNew_ris t es x v r
  have l1 := layNew_led t es x v
  show Ris (tailTx ep (layNew t es x v).1 (if (layNew t es x v).2.1.plain = true then { (layNew t es x v).2.1 with plain := false } else (layNew t es x v).2.1) (layNew t es x v).2.2.1).2.2.place.toList ∧ (tailTx ep (layNew t es x v).1 (if (layNew t es x v).2.1.plain = true then { (layNew t es x v).2.1 with plain := false } else (layNew t es x v).2.1) (layNew t es x v).2.2.1).2.2.led = t.led
  generalize layNew t es x v = Z at r1 l1 ⊢
  obtain ⟨es1, t1, wd, g⟩ := Z
  dsimp only at r1 l1 ⊢
  have r2 : Ris (if t1.plain = true then { t1 with plain := false } else t1).place.toList := by split <;> exact r1
  have l2 : (if t1.plain = true then { t1 with plain := false } else t1).led = t.led := by split <;> exact l1
  generalize (if t1.plain = true then { t1 with plain := false } else t1) = t2 at r2 l2 ⊢
  unfold tailTx
  split
  · exact ⟨relayAll_ris t2 es1 _, (relayAll_led t2 es1 _).trans l2⟩
  · exact ⟨r2, l2⟩

theorem add_dup {Q : Bool → Shared → Prop} {D : SD} (ho : s.heap.get? a = some (sObj "set" D)) (F : TxOk P w D l) (hk : k ∈ l) (hb : l.length < scanBound) (h : Q false s) : wpAny (model P w) A (setAddHashed a (.str k u) (hashStr w k)) Q E s := by
  obtain ⟨es, ep, t⟩ := D
  have dd : (sObj "set" (es, ep, t)).data = .set es ep t := rfl
  have ff : t.fits es.size = true := F.fit
  have el : ElemsOf (strKind P w) es.toList := F.el
  have zz : es.size = l.length := F.sz
  have b0 : es.size < scanBound := by omega
  have key : (strKind P w).is k (.str k u) = true := is_str k u
  unfold setAddHashed setAddHashedIn
  refine wpAny_holding (wpAny_bind (wpAny_setState_of ho dd ff ?_))
  dsimp only
  rw [byScan_of rfl b0 el]
  simp only [↓reduceIte]
  unfold setAddByScan
  refine wpAny_bind ?_
  refine wpAny_bind (wpAny_rule ?_)
  refine wpAny_bind (wpAny_setScan_of (knd := strKind P w) (k := k) key ho dd ff el ?_)
  cases hr : List.findIdx? (fun e => (strKind P w).is k e.2) es.toList with
  | some j => exact wpAny_pure (wpAny_pure h)
  | none =>
    obtain ⟨e, he, q⟩ := (F.mem k).mp hk
    have c := List.findIdx?_eq_none_iff.mp hr e he
    rw [q] at c
    cases c

theorem txr_add {Q : Bool → Shared → Prop} (R : TxR P w s.heap a l) (room : l.length + 1 < scanBound)
    (hQ : ∀ (b : Bool) h' l', Heap.SameBut a s.heap h' → TxR P w h' a l' → (∀ z, z ∈ l' ↔ z ∈ l ∨ z = k) → l'.length ≤ l.length + 1 → Q b { s with heap := h' }) :
    wpAny (model P w) A (setAddHashed a (.str k u) (hashStr w k)) Q E s := by
  obtain ⟨⟨D, ho, F, r, fl⟩, nd, few⟩ := id R
  by_cases hk : k ∈ l
  · refine add_dup ho F hk few ?_
    exact hQ false s.heap l (Heap.SameBut.refl a s.heap) R (fun z => ⟨Or.inl, fun q => q.elim id fun e => e ▸ hk⟩) (Nat.le_succ _)
  · refine add_x ho F hk room ?_
    have o := add_order D (hashStr w k) (.str k u) r
    refine hQ true _ (k :: l) (Heap.SameBut.update s.heap a _) ⟨⟨_, get_upd _ ho rfl, add_ok u F, o.1, fl.imp id fun z => o.2.trans z⟩, List.nodup_cons.mpr ⟨hk, nd⟩, room⟩ (fun z => ?_) (Nat.le_refl _)
    rw [List.mem_cons]
    exact Or.comm

theorem txr_new {h : Heap} (e : h.get? a = some { cls := .type "set", dict := none, data := .set #[] 0 (.fresh 0 0 (!w.params.followText "set-order")) }) : TxR P w h a [] := by
  refine ⟨⟨(#[], 0, .fresh 0 0 (!w.params.followText "set-order")), e, TxOk.nil rfl, List.Pairwise.nil, ?_⟩, List.nodup_nil, by decide⟩
  show _ ∨ (!w.params.followText "set-order") = true
  cases w.params.followText "set-order"
  · exact .inr rfl
  · exact .inl rfl

/-- set.update's turns over texts -/
theorem loop_txt {I : Addr} {fp wr : List Addr} {G : Array GenState → Array GenState → Prop} {n : Nat} {Pv : Nat → Value → Prop} {St : Nat → Shared → Prop} {R : Result → Shared → Prop}
    (W : WalksS P w A.in1 I fp wr G n Pv St) (S : Addr) (nS : S ∉ fp) (xs : List Str) (hn : n = xs.length) (room : n + 1 < scanBound) (val : ∀ i v, Pv i v → ∃ x t, xs[i]? = some x ∧ v = .str x t) :
    ∀ (k i : Nat) (s : Shared), n - i = k → i ≤ n → St i s → (∃ l, TxR P w s.heap S l ∧ (∀ z, z ∈ l ↔ z ∈ xs.take i) ∧ l.length ≤ i) →
      (∀ s' l, Moved (S :: wr) G s s' → TxR P w s'.heap S l → (∀ z, z ∈ l ↔ z ∈ xs) → R (.ok (.ret .none)) s') →
      codeAny (model P w) A (.builtin "set.update.loop" ⟨[.ref S, .ref I], []⟩) R s := by
  have sw : S ∉ wr := fun q => nS (W.sub _ q)
  have sub : ∀ b ∈ wr, b ∈ S :: wr := fun b q => List.mem_cons_of_mem _ q
  intro k
  induction k with
  | zero =>
    rintro i s hk hi hst ⟨l, hS, hm, _⟩ hR
    obtain rfl : i = n := by omega
    refine codeAny_builtin F.entry_set_update_loop ?_
    rw [Around.under_plainId F.plain_set_update_loop _]
    show wpAny _ A.in1 (pyNext (.ref I) >>= _) _ _ s
    refine wpAny_bind (W.done s _ _ hst fun s' mv => ?_)
    show wpAny _ A.in1 (ret Value.none) _ _ s'
    refine wpAny_pure (hR s' l (mv.mono sub) (hS.keep fun o e => mv.heap S o sw e) fun z => ?_)
    rw [hm z, hn, List.take_length]
  | succ k ih =>
    rintro i s hk hi hst ⟨l, hS, hm, hle⟩ hR
    have lt : i < n := by omega
    refine codeAny_builtin F.entry_set_update_loop ?_
    rw [Around.under_plainId F.plain_set_update_loop _]
    show wpAny _ A.in1 (pyNext (.ref I) >>= _) _ _ s
    refine wpAny_bind (W.item i s _ _ lt hst fun v s' pv' hst' mv => ?_)
    obtain ⟨x, t, ex, rfl⟩ := val i v pv'
    have hS' : TxR P w s'.heap S l := hS.keep fun o e => mv.heap S o sw e
    show wpAny _ A.in1 (holding [Value.str x t] (setAdd S (.str x t)) >>= _) _ _ s'
    refine wpAny_bind (wpAny_holding ?_)
    unfold setAdd
    refine wpAny_holding (wpAny_bind ((strKind P w).pyHash (is_str x t) ?_))
    refine txr_add (s := { s' with toks := s'.toks + 1 }) hS' (by omega) fun b h' l' same R' m' le' => ?_
    have tk : xs.take (i + 1) = xs.take i ++ [x] := by rw [List.take_add_one, ex]; rfl
    refine wpAny_pure ⟨plainId_quiet F.plain_set_update_loop _, ih (i + 1) _ (by omega) lt (W.frame _ s' _ _ hst' (Nat.le_add_right _ _) fun b hb o e => ?_) ⟨l', R', fun z => ?_, by omega⟩ fun s'' l2 mv2 R2 m2 => ?_⟩
    · rw [same.2 b (fun q : b = S => nS (q ▸ hb))]
      exact e
    · rw [m' z, hm z, tk, List.mem_append, List.mem_singleton]
    · refine hR s'' l2 (Moved.trans W.gtrans ((mv.mono sub).then_heap (Nat.le_add_right _ _) fun b o hb e => ?_) mv2) R2 m2
      rw [same.2 b (fun q : b = S => hb (q ▸ List.mem_cons_self))]
      exact e

abbrev set0 (w : World) : Obj := { cls := .type "set", dict := none, data := .set #[] 0 (.fresh 0 0 (!w.params.followText "set-order")) }

/-- how a builtin's tree ends, as a result R -/
def FinX (P : Program) (w : World) (B : Around) (R : Result → Shared → Prop) : Fin → Shared → Prop
  | .done f, s' => R (.ok f) s'
  | .again c', s' => c'.quiet = true ∧ codeAny (model P w) B c' R s'

/-- the set at S is filled from what stands at c -/
def Fills (P : Program) (w : World) (s : Shared) (c : Addr) (xs : List Str) : Prop :=
  ∀ (B : Around) (R : Result → Shared → Prop), B.handled = none →
    (∀ (h' : Heap) (tk : Nat) (l : List Str), TxR P w h' s.heap.objs.size l → (∀ z, z ∈ l ↔ z ∈ xs) → (∀ b o, s.heap.get? b = some o → h'.get? b = some o) → R (.ok (.ret .none)) { s with heap := h', toks := tk }) →
    wpAny (model P w) B.in1 (Builtin.«set.__init__» ⟨[.ref s.heap.objs.size, .ref c], []⟩) (FinX P w B R) (fun e s' => R (.error e) s') { s with heap := s.heap.push (set0 w) }

theorem strs_val {us : List Value} {xs : List Str} (h : StrsAre us xs) : us.length = xs.length ∧ ∀ (i : Nat) (v : Value), us[i]? = some v → ∃ x t, xs[i]? = some x ∧ v = .str x t := by
  induction h with
  | nil => exact ⟨rfl, fun i v q => by simp at q⟩
  | cons x t h ih =>
    refine ⟨congrArg (· + 1) ih.1, fun i v q => ?_⟩
    cases i with
    | zero => exact ⟨x, t, rfl, (Option.some.inj q).symm⟩
    | succ i => exact ih.2 i v q

section
variable {items : Array Value} {xs : List Str} {c : Addr}
theorem fill_end {I : Addr} {R : Result → Shared → Prop} (hI : I = s.heap.objs.size + 1)
    (hR : ∀ (h' : Heap) (tk : Nat) (l : List Str), TxR P w h' s.heap.objs.size l → (∀ z, z ∈ l ↔ z ∈ xs) → (∀ b o, s.heap.get? b = some o → h'.get? b = some o) → R (.ok (.ret .none)) { s with heap := h', toks := tk })
    {h0 : Heap} (k0 : ∀ b o, s.heap.get? b = some o → h0.get? b = some o) {s' : Shared} {l : List Str} (mv : Moved [s.heap.objs.size, I] (fun a b => b = a) { s with heap := h0 } s') (T : TxR P w s'.heap s.heap.objs.size l) (m : ∀ z, z ∈ l ↔ z ∈ xs) : R (.ok (.ret .none)) s' := by
  obtain ⟨h', g2, d2, t2, o2⟩ := s'
  have e1 : g2 = s.gens := mv.gens
  have e2 : d2 = s.drawn := mv.drawn
  have e3 : o2 = s.os := mv.os
  subst e1 e2 e3
  refine hR h' t2 l T m fun b o e => mv.heap b o (fun z => ?_) (k0 b o e)
  have lt : b < s.heap.objs.size := Heap.lt_size e
  rcases List.mem_cons.mp z with z | z
  · exact absurd z (Nat.ne_of_lt lt)
  · exact absurd ((List.mem_singleton.mp z).trans hI) (Nat.ne_of_lt (Nat.lt_succ_of_lt lt))

set_option maxHeartbeats 3200000 in
theorem fills_list (hl : s.heap.IsList c items) (hit : StrsAre items.toList xs) (room : xs.length + 1 < scanBound) : Fills P w s c xs := by
  intro B R hh hR
  obtain ⟨len, val⟩ := strs_val hit
  rw [Array.length_toList] at len
  obtain ⟨⟨k, dd, da, sl⟩, hob, hk, n, hd⟩ := hl
  simp only at hk hd
  subst hk hd
  have hob1 : (s.heap.push (set0 w)).get? c = some { cls := .type "list", dict := dd, data := .seq items n, slots := sl } := Heap.get?_push_of_some _ hob
  have f1 := F.sub_list_set
  have f2 := F.sub_list_frozenset
  have f3 : (Value.type "list" == Value.type "dict") = false := by decide
  have isl : (s.heap.push (set0 w)).IsList c items := ⟨_, hob1, rfl, n, rfl⟩
  unfold Builtin.«set.__init__» noKeywords Builtin.Frozenset.updateFrom
  generalize gq : pyIter = PI
  wp_walk
  subst gq
  refine wpAny_pyIter_list isl ?_
  refine wpAny_bind (wpAny_runValue ?_)
  have h3 : B.in1.in1.handled = none := by simp [hh]
  have lt : c < s.heap.objs.size := Heap.lt_size hob
  have z1 : (s.heap.push (set0 w)).objs.size = s.heap.objs.size + 1 := Heap.size_push ..
  have nI : c ≠ (s.heap.push (set0 w)).objs.size := by rw [z1]; exact Nat.ne_of_lt (Nat.lt_succ_of_lt lt)
  have nS : s.heap.objs.size ∉ [(s.heap.push (set0 w)).objs.size, c] := by
    rw [z1]
    simp only [List.mem_cons, List.not_mem_nil, or_false, not_or]
    exact ⟨Nat.ne_of_lt (Nat.lt_succ_self _), Nat.ne_of_gt lt⟩
  have get0 : (s.heap.push (set0 w)).get? s.heap.objs.size = some (set0 w) := Heap.get?_push_size _ rfl
  refine loop_txt ((Walks.list h3 _ c nI items).toS) s.heap.objs.size nS xs len (by omega) (fun i v q => val i v (by rw [Array.getElem?_toList]; exact q)) (items.size - 0) 0 _ (by omega) (Nat.zero_le _)
    ⟨⟨_, Heap.get?_push_size _ rfl, rfl, rfl⟩, isl.push _⟩ ⟨[], txr_new (Heap.get?_push_of_some _ get0), fun z => by simp, Nat.le_refl 0⟩ fun s' l mv T m => ?_
  have q := fill_end (R := R) z1 hR (fun b o e => Heap.get?_push_of_some _ (Heap.get?_push_of_some _ e)) mv T m
  show wpAny _ _ _ _ _ _
  refine wpAny_pure ?_
  show wpAny _ _ (ret Value.none) _ _ _
  exact wpAny_pure q
set_option maxHeartbeats 3200000 in
theorem fills_tuple (hl : s.heap.IsTuple c items) (hit : StrsAre items.toList xs) (room : xs.length + 1 < scanBound) : Fills P w s c xs := by
  intro B R hh hR
  obtain ⟨len, val⟩ := strs_val hit
  rw [Array.length_toList] at len
  obtain ⟨⟨k, dd, da, sl⟩, hob, hk, n, hd⟩ := hl
  simp only at hk hd
  subst hk hd
  have hob1 : (s.heap.push (set0 w)).get? c = some { cls := .type "tuple", dict := dd, data := .seq items n, slots := sl } := Heap.get?_push_of_some _ hob
  have f1 := F.sub_tuple_set
  have f2 := F.sub_tuple_frozenset
  have f3 : (Value.type "tuple" == Value.type "dict") = false := by decide
  have isl : (s.heap.push (set0 w)).IsTuple c items := ⟨_, hob1, rfl, n, rfl⟩
  unfold Builtin.«set.__init__» noKeywords Builtin.Frozenset.updateFrom
  generalize gq : pyIter = PI
  wp_walk
  subst gq
  refine wpAny_pyIter_tuple isl ?_
  refine wpAny_bind (wpAny_runValue ?_)
  have h3 : B.in1.in1.handled = none := by simp [hh]
  have lt : c < s.heap.objs.size := Heap.lt_size hob
  have z1 : (s.heap.push (set0 w)).objs.size = s.heap.objs.size + 1 := Heap.size_push ..
  have nI : c ≠ (s.heap.push (set0 w)).objs.size := by rw [z1]; exact Nat.ne_of_lt (Nat.lt_succ_of_lt lt)
  have nS : s.heap.objs.size ∉ [(s.heap.push (set0 w)).objs.size, c] := by
    rw [z1]
    simp only [List.mem_cons, List.not_mem_nil, or_false, not_or]
    exact ⟨Nat.ne_of_lt (Nat.lt_succ_self _), Nat.ne_of_gt lt⟩
  have get0 : (s.heap.push (set0 w)).get? s.heap.objs.size = some (set0 w) := Heap.get?_push_size _ rfl
  refine loop_txt ((Walks.tuple h3 _ c nI items).toS) s.heap.objs.size nS xs len (by omega) (fun i v q => val i v (by rw [Array.getElem?_toList]; exact q)) (items.size - 0) 0 _ (by omega) (Nat.zero_le _)
    ⟨⟨_, Heap.get?_push_size _ rfl, rfl, rfl⟩, isl.push _⟩ ⟨[], txr_new (Heap.get?_push_of_some _ get0), fun z => by simp, Nat.le_refl 0⟩ fun s' l mv T m => ?_
  have q := fill_end (R := R) z1 hR (fun b o e => Heap.get?_push_of_some _ (Heap.get?_push_of_some _ e)) mv T m
  show wpAny _ _ _ _ _ _
  refine wpAny_pure ?_
  show wpAny _ _ (ret Value.none) _ _ _
  exact wpAny_pure q

set_option maxHeartbeats 3200000 in
/-- set(xs), xs a list or tuple of texts -/
theorem set_call {Q : Value → Shared → Prop} (hh : A.handled = none) (fill : Fills P w s c xs)
    (h : ∀ (h' : Heap) (tk : Nat) (l : List Str), TxR P w h' s.heap.objs.size l → (∀ z, z ∈ l ↔ z ∈ xs) → (∀ b o, s.heap.get? b = some o → h'.get? b = some o) → Q (.ref s.heap.objs.size) { s with heap := h', toks := tk }) :
    wpAny (model P w) A (call (.type "set") [.ref c]) Q E s := by
  obtain ⟨c0, tl, hmro⟩ := F.called_set.mro
  have hmade := F.called_set.made
  have hsub := F.called_set.sub
  refine wpAny_call (codeAny_of_tree ?_)
  show wpAny _ _ (callAny (.type "set") _) _ _ _
  refine wpAny_pure ⟨Code.quiet_builtin _ (by decide +kernel), codeAny_builtin F.entry_type_call ?_⟩
  rw [Around.under_plain (weight_type_call_type "set" [.ref c] []) rfl]
  have h1 := F.called_set.notType
  have h2 := F.called_set.canCreate
  have h3 := F.typeCall_set_1 (.ref c)
  repeat (any_goals (first | assumption | wp_step))
  refine codeAny_mono (code_set_led1 (.ref c) (E := E) (Q₁ := fun obj s₁ => obj = .ref s.heap.objs.size ∧ s₁ = { s with heap := s.heap.push (set0 w) }) ⟨rfl, rfl⟩) fun r s1 hr => ?_
  rcases r with e | fl
  · exact hr
  rcases fl with _ | _ | _ | obj
  all_goals try exact hr.elim
  obtain ⟨rfl, rfl⟩ := hr
  have hS : (s.heap.push (set0 w)).get? s.heap.objs.size = some (set0 w) := Heap.get?_push_size _ rfl
  have tS : Shared.TypeIs { s with heap := s.heap.push (set0 w) } (.ref s.heap.objs.size) "set" := ⟨_, hS, rfl⟩
  have i1 := F.called_set.init.lookup
  have i2 := F.called_set.init.bind (.ref s.heap.objs.size)
  repeat (any_goals (first | assumption | wp_step))
  refine codeAny_mono (codeAny_call_builtin (R := wants (fun r s₂ => r = .none ∧ ∃ h' tk l, s₂ = { s with heap := h', toks := tk } ∧ TxR P w h' s.heap.objs.size l ∧ (∀ z, z ∈ l ↔ z ∈ xs) ∧ (∀ b o, s.heap.get? b = some o → h'.get? b = some o)) E)
    F.called_set.init.plain F.entry_set_init (check_set_init_1 tS ?_)) fun r2 s2 h2 => ?_
  · refine wpAny_mono (fill A.in1 (wants (fun r s₂ => r = .none ∧ ∃ h' tk l, s₂ = { s with heap := h', toks := tk } ∧ TxR P w h' s.heap.objs.size l ∧ (∀ z, z ∈ l ↔ z ∈ xs) ∧ (∀ b o, s.heap.get? b = some o → h'.get? b = some o)) E) (by simp [hh])
      fun h' tk l T m k => ⟨rfl, h', tk, l, rfl, T, m, k⟩) (fun fin s' q => ?_) fun _ _ q => q
    cases fin <;> exact q
  · rcases r2 with e | fl
    · exact h2
    rcases fl with _ | _ | _ | obj
    all_goals try exact h2.elim
    obtain ⟨rfl, h', tk, l, rfl, R, m, k⟩ := h2
    repeat (any_goals (first | assumption | wp_step))
    exact h _ _ _ R m k

theorem strs_get {l : List Str} : ∀ {vs : List Value}, (∀ v ∈ vs, ∃ x t, v = .str x t) → ∃ ys, StrsAre vs ys
  | [], _ => ⟨[], .nil⟩
  | v :: vs, h => by
    obtain ⟨x, t, rfl⟩ := h v List.mem_cons_self
    obtain ⟨ys, q⟩ := strs_get (l := l) fun u hu => h u (List.mem_cons_of_mem _ hu)
    exact ⟨x :: ys, .cons x t q⟩
theorem strs_mem {x : Str} : ∀ {vs : List Value} {ys : List Str}, StrsAre vs ys → (x ∈ ys ↔ ∃ t, Value.str x t ∈ vs)
  | _, _, .nil => by simp
  | _, _, .cons y t h => by
    rw [List.mem_cons, strs_mem h]
    constructor
    · rintro (rfl | ⟨u, q⟩)
      · exact ⟨t, List.mem_cons_self⟩
      · exact ⟨u, List.mem_cons_of_mem _ q⟩
    · rintro ⟨u, q⟩
      rcases List.mem_cons.mp q with e | q
      · injection e with e _
        exact .inl e
      · exact .inr ⟨u, q⟩

/-- sorted(a set of texts) -/
theorem sorted_txr {a : Addr} {l : List Str} {Q : Value → Shared → Prop} (T : TxR P w s.heap a l) (hh : A.handled = none)
    (hQ : ∀ s' p (out : Array Value) (c : Nat) (ys : List Str), (∀ b o, s.heap.get? b = some o → s'.heap.get? b = some o) → s'.gens = s.gens → s'.os = s.os → s.heap.objs.size ≤ p →
      s'.heap.get? p = some (seqObj "list" out c) → StrsAre out.toList ys → sortedS ys = true → (∀ z, z ∈ ys ↔ z ∈ l) → ys.length = l.length → Q (.ref p) s') :
    wpAny (model P w) A (call (.builtin "sorted") [.ref a]) Q E s := by
  obtain ⟨⟨⟨es, ep, t⟩, ho, F, r, fl⟩, nd, few⟩ := T
  have zz : es.size = l.length := F.sz
  refine Calls.call_function_entry kind_sorted plain_sorted entry_sorted (args_sorted1 _) ?_
  unfold Builtin.«sorted»
  refine wpAny_bind (m := checkCount "sorted" 1 1 _) (wpAny_pure ?_)
  refine wpAny_bind (collect_set (A := A.in1) hh ⟨_, ho, rfl, rfl⟩ F.fit (by rw [zz]; exact few) r fl fun s1 vs k1 hz g1 o1 pm => ?_)
  have all : ∀ v ∈ vs, ∃ x t, v = .str x t := fun v hv => by
    obtain ⟨e, he, rfl⟩ := List.mem_map.mp (pm.mem_iff.mp hv)
    obtain ⟨⟨x, hx, _⟩, _⟩ := F.el e he
    obtain ⟨t, q⟩ := Value.isStrOf_shape (x := x) (v := e.2) hx
    exact ⟨x, t, q⟩
  obtain ⟨ws, hS⟩ := strs_get (l := l) all
  have len := (strs_val hS).1
  have lvs : vs.length = l.length := by rw [pm.length_eq, List.length_map, Array.length_toList]; exact zz
  have mem : ∀ z, z ∈ ws ↔ z ∈ l := fun z => by
    rw [strs_mem hS, F.mem z]
    constructor
    · rintro ⟨t, q⟩
      obtain ⟨e, he, e2⟩ := List.mem_map.mp (pm.mem_iff.mp q)
      exact ⟨e, he, by rw [e2]; exact is_str z t⟩
    · rintro ⟨e, he, q⟩
      obtain ⟨t, e2⟩ := Value.isStrOf_shape (x := z) (v := e.2) q
      exact ⟨t, pm.mem_iff.mpr (List.mem_map.mpr ⟨e, he, e2⟩)⟩
  have few2 : vs.length ≤ sizeLine := by rw [lvs]; exact fits_of_scanBound few
  refine wpAny_bind (wpAny_newList ?_ few2)
  have hoL : (s1.heap.push (seqObj "list" vs.toArray 0)).get? s1.heap.objs.size = some (seqObj "list" vs.toArray 0) := Heap.get?_push_size _ rfl
  refine wpAny_bind (wpAny_holding (wpAny_call_entry slot_list_sort ⟨_, hoL, rfl⟩ entry_list_sort (list_sort_treeKAny strKind_oneLt hoL hS.keysOf (fun v₁ v₂ rest e => keyKind_strs (by rw [← e]; exact hS)) few2 fun st' hp hs => ⟨_, rfl, ?_⟩) (args_list_sort _)))
  obtain ⟨ys, g1', g2, g3⟩ := sorted_out_str hS hp hs
  obtain ⟨c, hc⟩ := sortedHeap_at (vs := vs) (out := (arrOf st').map (·.2)) hoL
  refine wpAny_pure ⟨_, rfl, hQ _ s1.heap.objs.size _ c ys (fun b u e => ?_) g1 o1 hz hc g1' g3 (fun z => by rw [g2.mem_iff, mem z]) (by rw [g2.length_eq, ← len, lvs])⟩
  have q := k1 b u e
  have lt := Heap.lt_size q
  show (sortedHeap (s1.heap.push (seqObj "list" vs.toArray 0)) s1.heap.objs.size vs _).get? b = some u
  rw [sortedHeap_old (Nat.ne_of_lt lt) (by rw [size_push']; exact Nat.lt_succ_of_lt lt)]
  exact Heap.get?_push_of_some _ q
end
end

/-! ### over the hand layer -/
section
variable {X : Cx}
def TxO (P : Program) (w : World) (a : Addr) (l : List Str) : HO := .ext fun h => TxR P w h a l
theorem txo_new {P : Program} {w : World} {H : Hp} {h : Heap} {a : Addr} {l : List Str} (R : TxR P w h a l) : ObjOk P w H h a (TxO P w a l) :=
  ⟨R, let ⟨⟨_, e, _⟩, _⟩ := R; ⟨_, e⟩, fun _ _ q k => q.keep k⟩

/-- set(xs) of a list or tuple of texts -/
def rSetS (K : PySem.W.Frag) (P : Program) (w : World) : List V → Hp → VK → Prop := fun vs H Q => ∃ (c : Addr) (xs : List Str), vs = [.ref c] ∧ (SqL K H c (xs.map V.str) ∨ SqT K H c (xs.map V.str)) ∧ xs.length < 4000 ∧
  ∀ (p : Addr) (l : List Str), H p = none → l.Nodup → (∀ z, z ∈ l ↔ z ∈ xs) → Q (.ref p) (upd H p (TxO P w p l))
theorem cr_setS (hc : X.calm = true) : CallR X (.type "set") (rSetS X.K X.prog X.w) := by
  intro pins s σ H vs us Q I r h
  obtain ⟨c, xs, rfl, hs, few, q⟩ := h
  rw [Vals.ref1 r]
  have hn : H s.heap.objs.size = none := I.hok.fresh (Nat.le_refl _)
  have fill : Fills X.prog X.w s c xs := by
    rcases hs with hs | hs
    · obtain ⟨its, rv, pl, hz⟩ := I.list hs
      exact fills_list pl.isList (by simpa using rv.strs) (by unfold scanBound; omega)
    · obtain ⟨its, rv, pl, hz⟩ := I.tuple hs
      exact fills_tuple pl (by simpa using rv.strs) (by unfold scanBound; omega)
  refine set_call (I.ok.hd hc) fill fun h' tk l T m k => ?_
  exact ⟨.ref s.heap.objs.size, _, I.laid (t' := tk) k (Nat.le_refl _) (txo_new T), rfl, q _ l hn T.2.1 m⟩

/-- sorted(a set of texts) -/
def rSortedX (P : Program) (w : World) : List V → Hp → VK → Prop := fun vs H Q => ∃ (a : Addr) (l : List Str), vs = [.ref a] ∧ H a = some (TxO P w a l) ∧
  ∀ (ys : List Str) (p : Addr), sortedS ys = true → (∀ z, z ∈ ys ↔ z ∈ l) → ys.length = l.length → H p = none → Q (.ref p) (upd H p (.lst (ys.map V.str)))
theorem cr_sortedX (hc : X.calm = true) : CallR X (.builtin "sorted") (rSortedX X.prog X.w) := by
  intro pins s σ H vs us Q I r h
  obtain ⟨a, l, rfl, ha, q⟩ := h
  have T : TxR X.prog X.w s.heap a l := (I.hok a _ ha).1
  rw [Vals.ref1 r]
  refine sorted_txr T (I.ok.hd hc) fun s' p out c ys k g o hp hg hS so m len => ?_
  have hn : H p = none := I.hok.fresh hp
  have few : (ys.map V.str).length ≤ sizeLine := by rw [List.length_map, len]; exact fits_of_scanBound T.2.2
  have J : Inv X pins σ (upd H p (.lst (ys.map V.str))) { s with heap := s'.heap, gens := s'.gens, drawn := s'.drawn, toks := s'.toks } :=
    I.call (ch := []) (Un.laid k hp hn) (I.hok.laid k hp ⟨few, out.toList, c, vals_of_strs hS, hg⟩) (by rw [g]; exact I.bare) fun _ z => nomatch z
  have e : s' = { s with heap := s'.heap, gens := s'.gens, drawn := s'.drawn, toks := s'.toks } := by
    rcases s' with ⟨_, _, _, _, _⟩
    cases o
    rfl
  rw [e]
  exact ⟨.ref p, _, J, rfl, q ys p so m len hn⟩
end
end Mf
/-! Operators of own classes (dunder methods that are plain defs), over the hand layer. -/
namespace Mf
open PySem PySem.Spec PyProof.Rows L2

section
variable {X : Cx} {CX : CXT} {k : Nat} {f C a dx : Addr} {fd : FuncData} {ps : List Str} {sp : Sp} {E : XK} {ds : List Value} {dvs : List V} {pins : List (Addr × Obj)} {σ : L2.St} {H : Hp} {s : Shared} {fs : List (Str × V)}

theorem Inv.inst (I : Inv X pins σ H s) (e : H a = some (.ins C dx fs)) : ∃ od, PySem.W.InstAt s.heap a (PySem.W.instObj C dx) C (some od) :=
  let ⟨_, O, _⟩ := ins_get I.hok e
  let ⟨od, i, _⟩ := O.look
  ⟨od, i⟩

/-- a def runs, from anywhere under the body X -/
theorem run_in {A : Around} {Q : VK} {us : List Value} {vs : List V} (F : FnOk X.prog X.w X.K X.mg X.base CX k f fd ps sp) (hr : Room k A) (hb : Binds X.K fd ps ds) (hd : Vals dvs ds) (hx : Passes CX X E)
    (e0 : Env0 X.prog X.w X.K X.mg X.base A X.stack s H) (I : Inv X pins σ H s) (r : Vals vs us) (h : sp (vs ++ dvs) H Q E) : wpAny (model X.prog X.w) A (call (.ref f) us) (EP X pins σ Q) X.xe s := by
  have r2 : Vals (vs ++ dvs) (us ++ ds) := r.append hd
  have hl : (us ++ ds).length = ps.length := by rw [← r2.length]; exact F.len _ _ _ _ h
  refine wpAny_call (codeAny_mono (F.run A X.stack s H ⟨us, []⟩ (us ++ ds) (vs ++ dvs) Q E hr e0 (hb s us I.kIn hl) r2 h) fun r s' hq => ?_)
  rcases r with e | fl
  · exact hx pins σ H s e s' I hq
  · rcases fl with _ | _ | _ | u
    all_goals first | exact False.elim hq | exact I.after hq

/-- what type the other operand has: it isn't below C -/
def NotBelow (K : PySem.W.Frag) (C : Addr) (y : V) (H : Hp) : Prop := ∃ t, TyX K H y t ∧ PySem.W.notFirst K C t = true

/-- x op y by the class's own def -/
def rCmpO (K : PySem.W.Frag) (C : Addr) (sp : Sp) (E : XK) : R2 := fun x y H Q => ∃ a dx fs, x = .ref a ∧ H a = some (.ins C dx fs) ∧ NotBelow K C y H ∧ sp [x, y] H Q E
theorem op_cmpO {op : CmpOp} (m : Meth X.K C (cmpInfo op).2.1 f) (F : FnOk X.prog X.w X.K X.mg X.base CX k f fd ps sp) (hr : Room k X.A) (hb : Binds X.K fd ps []) (hx : Passes CX X E)
    (hop : ∀ a b, compareOp op a b = richCompare op a b := by exact fun _ _ => rfl) : OpR X (compareOp op) (rCmpO X.K C sp E) := by
  intro pins s σ H x y v u Q I rx ry h
  obtain ⟨a, dx, fs, rfl, ha, ⟨t, ty, nb⟩, q⟩ := h
  cases (show v = Value.ref a from rx)
  obtain ⟨od, J⟩ := Inv.inst I ha
  obtain ⟨mm, hF⟩ := I.fr
  obtain ⟨Pk, Z, p, _⟩ := kit_of I ry ty
  rw [hop]
  refine PySem.W.cmp_K (op := op) (tb := t) hr.units0 hF I.ok.mod.kin J (Z.ty _ _ I.kIn p) nb m.at_ m.fn ?_
  refine wpAny_mono (run_in (us := [.ref a, u]) (vs := [.ref a, y]) F hr hb .nil hx I.env0 I (.cons rfl (.cons ry .nil)) (by rw [List.append_nil]; exact q)) (fun z s' e => ?_) fun _ _ e => e
  obtain ⟨z', H', I', rz, qz⟩ := e
  exact SlX.cmpback rz ⟨z', H', I', rz, qz⟩

/-- x != y by the class's own __eq__ -/
def rNeO (K : PySem.W.Frag) (C : Addr) (sp : Sp) (E : XK) : R2 := fun x y H Q => ∃ a dx fs, x = .ref a ∧ H a = some (.ins C dx fs) ∧ NotBelow K C y H ∧ sp [x, y] H (fun v H' => ∃ b, v = .bl b ∧ Q (.bl (!b)) H') E
theorem op_neO (m : Meth X.K C "__eq__" f) (ne : PySem.W.findIn X.K (.ref C) "__ne__" = some (some (.builtin "object.__ne__"))) (mo : PySem.W.mroIn X.K C (.type "object") = some true)
    (F : FnOk X.prog X.w X.K X.mg X.base CX k f fd ps sp) (hr : Room (k + 1) X.A) (hb : Binds X.K fd ps []) (hx : Passes CX X E) : OpR X (compareOp .NotEq) (rNeO X.K C sp E) := by
  intro pins s σ H x y v u Q I rx ry h
  obtain ⟨a, dx, fs, rfl, ha, ⟨t, ty, nb⟩, q⟩ := h
  cases (show v = Value.ref a from rx)
  obtain ⟨od, J⟩ := Inv.inst I ha
  obtain ⟨Pk, Z, p, _⟩ := kit_of I ry ty
  have Lb : PySem.W.Looks (model X.prog X.w) s.heap (typeOf u) t := Z.ty _ _ I.kIn p
  have core : wpAny (model X.prog X.w) X.A (call (.builtin "object.__ne__") [.ref a, u]) (EP X pins σ Q) X.xe s := by
    refine wpAny_call (codeAny_call_builtin PySem.F.cmp_object.ne.plain PySem.F.cmpEntry_ne (PySem.W.check_slot (i := "object.__ne__") (owner := "object") (n := "__ne__") PySem.F.cmpKind_ne PySem.F.cmpSplit_ne (J.type.andThen (PySem.W.looks_mroIn I.kIn mo)) (PySem.F.cmpArgs_ne _ _) ?_))
    unfold Builtin.«object.__ne__»
    refine wpAny_bind (m := slotArgs "__ne__" 1 _) (wpAny_pure ?_)
    refine wpAny_bind (m := cRoomFor _ _) (wpAny_cRoomFor (hr.in1).units0 ?_)
    refine wpAny_bind (m := callSpecialIfBound? (.ref a) (Str.ofString "__eq__") _) (PySem.W.ifBound_K I.kIn J m.at_ m.fn ?_)
    refine wpAny_mono (run_in (us := [.ref a, u]) (vs := [.ref a, y]) F hr.in1 hb .nil hx I.env0.in1 I (.cons rfl (.cons ry .nil)) (by rw [List.append_nil]; exact q)) (fun z s' e => ?_) fun _ _ e => e
    obtain ⟨z', H', I', rz, b, rfl, qz⟩ := e
    cases (show z = Value.bool b from rz)
    exact wpAny_bind (wpAny_truthy_bool (wpAny_pure ⟨.bl (!b), H', I', rfl, qz⟩))
  have one : wpAny (model X.prog X.w) X.A (tryCompare (.ref a) "__ne__" u) (fun r s' => ∃ v, r = some v ∧ EP X pins σ Q v s') X.xe s := by
    unfold tryCompare
    refine wpAny_bind ?_
    simp only [callSpecialIfBound?, bindSpecialIfBound?]
    refine wpAny_holding (wpAny_bind (wpAny_bind (wpAny_bind (J.type.here ((PySem.W.looks_findIn I.kIn ne).here ?_)))))
    simp only [PySem.F.cmp_object.ne.bind]
    have fin : wpAny (model X.prog X.w) X.A (call (.builtin "object.__ne__") ([.ref a] ++ [u]) >>= fun v => pure (some v)) (fun a_1 s' => wpAny (model X.prog X.w) X.A (match a_1 with
        | some Value.notImplemented | none => pure none
        | some v => pure (some v)) (fun r s' => ∃ v, r = some v ∧ EP X pins σ Q v s') X.xe s') X.xe s := by
      refine wpAny_bind (wpAny_mono core (fun z s' e => wpAny_pure ?_) fun _ _ e => e)
      have e2 := e
      obtain ⟨z', H', I', rz, qz⟩ := e2
      have nn : PySem.W.CmpBack (fun z s' => EP X pins σ Q z s') z s' := SlX.cmpback rz e
      cases z <;> first | exact nn.elim | exact wpAny_pure ⟨_, rfl, nn⟩
    refine wpAny_bind (wpAny_askSetting (wpAny_ite ?_))
    split
    · exact wpAny_bind (wpAny_pure (wpAny_pure fin))
    · exact wpAny_tryCatch (wpAny_bind (wpAny_pure (wpAny_pure fin)))
  show wpAny _ _ (richCompare .NotEq (.ref a) u) _ _ s
  unfold richCompare
  simp only [oneThing_ref]
  refine wpAny_holding (wpAny_bind (wpAny_cRoomFor hr.units0 ?_))
  refine wpAny_bind (J.type.here (wpAny_bind (Lb.here ?_)))
  split
  · rename_i h1
    have e : PySem.W.subIn X.K t (.ref C) = some false := by
      rcases Bool.or_eq_true_iff.mp nb with e | e
      · rw [beq_iff_eq.mp e] at h1; simp at h1
      · exact beq_iff_eq.mp e
    refine wpAny_bind ((PySem.W.looks_subIn I.kIn e).here ?_)
    simp only [Bool.false_eq_true, if_false]
    refine wpAny_bind (wpAny_mono one (fun r s' z => ?_) fun _ _ e => e)
    obtain ⟨v, rfl, hq⟩ := z
    exact wpAny_pure hq
  · refine wpAny_bind (wpAny_pure ?_)
    simp only [Bool.false_eq_true, if_false]
    refine wpAny_bind (wpAny_mono one (fun r s' z => ?_) fun _ _ e => e)
    obtain ⟨v, rfl, hq⟩ := z
    exact wpAny_pure hq

/-- x op y, both of the class -/
def rBinO (C : Addr) (sp : Sp) (E : XK) : R2 := fun x y H Q => ∃ a dx fs b dy gs, x = .ref a ∧ y = .ref b ∧ H a = some (.ins C dx fs) ∧ H b = some (.ins C dy gs) ∧ sp [x, y] H Q E
theorem op_binO {op : Operator} (m : Meth X.K C (PySem.dunder op.info.2) f) (sf : PySem.W.selfFirst X.K C = true) (F : FnOk X.prog X.w X.K X.mg X.base CX k f fd ps sp) (hr : Room k X.A) (hb : Binds X.K fd ps []) (hx : Passes CX X E) :
    OpR X (binaryOp op) (rBinO C sp E) := by
  intro pins s σ H x y v u Q I rx ry h
  obtain ⟨a, dx, fs, b, dy, gs, rfl, rfl, ha, hb', q⟩ := h
  cases (show v = Value.ref a from rx)
  cases (show u = Value.ref b from ry)
  obtain ⟨od, J⟩ := Inv.inst I ha
  obtain ⟨oe, J'⟩ := Inv.inst I hb'
  obtain ⟨mm, hF⟩ := I.fr
  refine PySem.W.binop_K hF I.ok.mod.kin J J'.type sf m.at_ m.fn ?_
  refine wpAny_mono (run_in (us := [.ref a, .ref b]) (vs := [.ref a, .ref b]) F hr hb .nil hx I.env0 I (.cons rfl (.cons rfl .nil)) (by rw [List.append_nil]; exact q)) (fun z s' e => ?_) fun _ _ e => e
  obtain ⟨z', H', I', rz, qz⟩ := e
  exact SlX.cmpback rz ⟨z', H', I', rz, qz⟩

/-- y in x, y not in x -/
def rInO (C : Addr) (neg : Bool) (sp : Sp) (E : XK) : R2 := fun y x H Q => ∃ a dx fs, x = .ref a ∧ H a = some (.ins C dx fs) ∧ sp [x, y] H (fun v H' => ∃ b, v = .bl b ∧ Q (.bl (if neg then !b else b)) H') E
theorem op_inO (m : Meth X.K C "__contains__" f) (F : FnOk X.prog X.w X.K X.mg X.base CX k f fd ps sp) (hr : Room k X.A) (hb : Binds X.K fd ps []) (hx : Passes CX X E) : OpR X (compareOp .In) (rInO C false sp E) := by
  intro pins s σ H y x u v Q I ry rx h
  obtain ⟨a, dx, fs, rfl, ha, q⟩ := h
  cases (show v = Value.ref a from rx)
  obtain ⟨od, J⟩ := Inv.inst I ha
  obtain ⟨mm, hF⟩ := I.fr
  refine PySem.W.in_K hF I.ok.mod.kin J m.at_ m.fn ?_
  refine wpAny_mono (run_in (us := [.ref a, u]) (vs := [.ref a, y]) F hr hb .nil hx I.env0 I (.cons rfl (.cons ry .nil)) (by rw [List.append_nil]; exact q)) (fun z s' e => ?_) fun _ _ e => e
  obtain ⟨z', H', I', rz, b, rfl, qz⟩ := e
  cases (show z = Value.bool b from rz)
  exact wpAny_truthy_bool ⟨.bl b, H', I', rfl, qz⟩
theorem op_notInO (m : Meth X.K C "__contains__" f) (F : FnOk X.prog X.w X.K X.mg X.base CX k f fd ps sp) (hr : Room k X.A) (hb : Binds X.K fd ps []) (hx : Passes CX X E) : OpR X (compareOp .NotIn) (rInO C true sp E) := by
  intro pins s σ H y x u v Q I ry rx h
  obtain ⟨a, dx, fs, rfl, ha, q⟩ := h
  cases (show v = Value.ref a from rx)
  obtain ⟨od, J⟩ := Inv.inst I ha
  obtain ⟨mm, hF⟩ := I.fr
  refine PySem.W.notIn_K hF I.ok.mod.kin J m.at_ m.fn ?_
  refine wpAny_mono (run_in (us := [.ref a, u]) (vs := [.ref a, y]) F hr hb .nil hx I.env0 I (.cons rfl (.cons ry .nil)) (by rw [List.append_nil]; exact q)) (fun z s' e => ?_) fun _ _ e => e
  obtain ⟨z', H', I', rz, b, rfl, qz⟩ := e
  cases (show z = Value.bool b from rz)
  exact wpAny_truthy_bool ⟨.bl (!b), H', I', rfl, qz⟩

/-- len(x) -/
def rLenO (C : Addr) (sp : Sp) (E : XK) : List V → Hp → VK → Prop := fun xs H Q => ∃ a dx fs, xs = [.ref a] ∧ H a = some (.ins C dx fs) ∧ sp xs H (fun v H' => ∃ n : Nat, v = .int n ∧ n < 2 ^ 62 ∧ Q v H') E
theorem call_lenO (m : Meth X.K C "__len__" f) (F : FnOk X.prog X.w X.K X.mg X.base CX k f fd ps sp) (hr : Room (k + 1) X.A) (hb : Binds X.K fd ps []) (hx : Passes CX X E) : CallR X (.builtin "len") (rLenO C sp E) := by
  intro pins s σ H xs us Q I r h
  obtain ⟨a, dx, fs, rfl, ha, q⟩ := h
  rw [Vals.ref1 r]
  obtain ⟨od, J⟩ := Inv.inst I ha
  obtain ⟨mm, hF⟩ := I.fr
  refine PySem.W.len_K hF I.ok.mod.kin J m.at_ m.fn ?_
  refine wpAny_mono (run_in (us := [.ref a]) (vs := [.ref a]) F hr.in1 hb .nil hx I.env0.in1 I (.cons rfl .nil) (by rw [List.append_nil]; exact q)) (fun z s' e => ?_) fun _ _ e => e
  obtain ⟨z', H', I', rz, n, rfl, hn, qz⟩ := e
  obtain ⟨t, rfl⟩ := (show ∃ t, z = Value.int n t from rz)
  exact ⟨⟨by omega, by omega⟩, .int n, H', I'.tok _, ⟨_, rfl⟩, qz⟩

/-- x[y] -/
def rGetO (C : Addr) (sp : Sp) (E : XK) : R2 := fun x y H Q => ∃ a dx fs, x = .ref a ∧ H a = some (.ins C dx fs) ∧ sp [x, y] H Q E
theorem pe_getO {o i : Expr} {to ti : TE} {pos : Pos} (m : Meth X.K C "__getitem__" f) (fn : PySem.W.fnIn X.K f = true) (F : FnOk X.prog X.w X.K X.mg X.base CX k f fd ps sp) (hr : Room (k + 1) X.A) (hb : Binds X.K fd ps []) (hx : Passes CX X E) (ho : PE X o to) (hi : PE X i ti)
    (hsl : ∀ x y, subscripted i true x y = runValue (.builtin "lifetime.subscript" ⟨[x, y], []⟩) := by intro _ _; with_unfolding_all rfl) : PE X (.Subscript o i pos) (tOp (rGetO C sp E) to ti) := by
  refine ⟨fun pins s σ H Q I h => ?_⟩
  refine Subscript_ (binT ho hi I h fun v u s2 x y H2 I2 rx ry q => ?_)
  obtain ⟨a, dx, fs, rfl, ha, q⟩ := q
  cases (show v = Value.ref a from rx)
  obtain ⟨od, J⟩ := Inv.inst I2 ha
  obtain ⟨mm, hF⟩ := I2.fr
  refine PySem.W.sub_K hF I2.ok.mod.kin J m.at_ fn m.fn ?_ (hsl _ _)
  exact run_in (us := [.ref a, u]) (vs := [.ref a, y]) F hr.in1 hb .nil hx I2.env0.in1 I2 (.cons rfl (.cons ry .nil)) (by rw [List.append_nil]; exact q)
end
end Mf
/-! Sorted texts: the order, and that a sorted row without repeats is the only one of its members. -/
namespace Mf
open PySem L2
theorem lt_irr : ∀ l : List Nat, Spec.ltCps l l = false
  | [] => rfl
  | a :: r => by
    show (decide (a < a) || (a == a && Spec.ltCps r r)) = false
    rw [lt_irr r]; simp
theorem lt_asym : ∀ l m : List Nat, Spec.ltCps l m = true → Spec.ltCps m l = false
  | [], [], h => rfl
  | [], _ :: _, _ => rfl
  | _ :: _, [], h => by cases h
  | a :: r, b :: t, h => by
    have h : (decide (a < b) || (a == b && Spec.ltCps r t)) = true := h
    show (decide (b < a) || (b == a && Spec.ltCps t r)) = false
    simp only [Bool.or_eq_true, decide_eq_true_eq, Bool.and_eq_true, beq_iff_eq] at h
    simp only [Bool.or_eq_false_iff, decide_eq_false_iff_not, Bool.and_eq_false_iff, beq_eq_false_iff_ne]
    rcases h with h2 | ⟨rfl, h2⟩
    · exact ⟨by omega, .inl (by omega)⟩
    · exact ⟨by omega, .inr (lt_asym r t h2)⟩
theorem lt_tri : ∀ l m : List Nat, Spec.ltCps l m = false → Spec.ltCps m l = false → l = m
  | [], [], _, _ => rfl
  | [], _ :: _, h, _ => by cases h
  | _ :: _, [], _, h => by cases h
  | a :: r, b :: t, h, g => by
    have h : (decide (a < b) || (a == b && Spec.ltCps r t)) = false := h
    have g : (decide (b < a) || (b == a && Spec.ltCps t r)) = false := g
    simp only [Bool.or_eq_false_iff, decide_eq_false_iff_not, Bool.and_eq_false_iff, beq_eq_false_iff_ne] at h g
    obtain rfl : a = b := by omega
    rw [lt_tri r t (h.2.resolve_left fun n => n rfl) (g.2.resolve_left fun n => n rfl)]
theorem lt_trans : ∀ l m n : List Nat, Spec.ltCps l m = true → Spec.ltCps m n = true → Spec.ltCps l n = true
  | [], [], _, h, _ => by cases h
  | [], _ :: _, [], _, h => by cases h
  | [], _ :: _, _ :: _, _, _ => rfl
  | _ :: _, [], _, h, _ => by cases h
  | _ :: _, _ :: _, [], _, h => by cases h
  | a :: r, b :: t, c :: u, h, g => by
    have h : (decide (a < b) || (a == b && Spec.ltCps r t)) = true := h
    have g : (decide (b < c) || (b == c && Spec.ltCps t u)) = true := g
    show (decide (a < c) || (a == c && Spec.ltCps r u)) = true
    simp only [Bool.or_eq_true, decide_eq_true_eq, Bool.and_eq_true, beq_iff_eq] at h g ⊢
    rcases h with h2 | ⟨rfl, h2⟩
    · rcases g with g2 | ⟨rfl, g2⟩
      · left; omega
      · left; exact h2
    · rcases g with g2 | ⟨rfl, g2⟩
      · left; exact g2
      · right; exact ⟨rfl, lt_trans r t u h2 g2⟩
def Lt (x y : Str) : Prop := Spec.ltCps x.cps.toList y.cps.toList = true
theorem Lt.ne {x y : Str} (h : Lt x y) : x ≠ y := fun e => by subst e; unfold Lt at h; rw [lt_irr] at h; cases h
theorem Lt.asymm {x y : Str} (h : Lt x y) : ¬ Lt y x := fun g => by unfold Lt at h g; rw [lt_asym _ _ h] at g; cases g
theorem Lt.trans {x y z : Str} (h : Lt x y) (g : Lt y z) : Lt x z := lt_trans _ _ _ h g
theorem not_lt {x y : Str} (h : Spec.ltCps y.cps.toList x.cps.toList = false) (n : x ≠ y) : Lt x y := by
  unfold Lt
  cases e : Spec.ltCps x.cps.toList y.cps.toList with
  | true => rfl
  | false => exact absurd (tl_inj (lt_tri _ _ e h)) n
/-- in order, each once -/
def Up (l : List Str) : Prop := l.Pairwise Lt
theorem Up.nd {l : List Str} (h : Up l) : l.Nodup := List.Pairwise.imp (fun h => h.ne) h
theorem rising_up : ∀ (l : List Str) (p : Str), PyProof.Rows.risingS p l = true → (p :: l).Nodup → Up (p :: l)
  | [], p, _, _ => List.pairwise_singleton _ _
  | x :: r, p, h, nd => by
    have h : (!Spec.ltCps x.cps.toList p.cps.toList && PyProof.Rows.risingS x r) = true := h
    obtain ⟨h1, h2⟩ := Bool.and_eq_true_iff.mp h
    obtain ⟨n1, n2⟩ := List.nodup_cons.mp nd
    have u := rising_up r x h2 n2
    have px : Lt p x := not_lt (by simpa using h1) fun e => n1 (e ▸ List.mem_cons_self)
    refine List.pairwise_cons.mpr ⟨fun y hy => ?_, u⟩
    rcases List.mem_cons.mp hy with rfl | hy
    · exact px
    · exact px.trans ((List.pairwise_cons.mp u).1 y hy)
theorem up_of {l : List Str} (h : PyProof.Rows.sortedS l = true) (nd : l.Nodup) : Up l := by
  cases l with
  | nil => exact List.Pairwise.nil
  | cons x r => exact rising_up r x h nd
theorem up_one : ∀ {xs ys : List Str}, Up xs → Up ys → (∀ z, z ∈ xs ↔ z ∈ ys) → xs = ys
  | [], [], _, _, _ => rfl
  | [], y :: _, _, _, h => absurd ((h y).mpr List.mem_cons_self) (by simp)
  | x :: _, [], _, _, h => absurd ((h x).mp List.mem_cons_self) (by simp)
  | x :: xs, y :: ys, u, v, h => by
    obtain ⟨u1, u2⟩ := List.pairwise_cons.mp u
    obtain ⟨v1, v2⟩ := List.pairwise_cons.mp v
    have e : x = y := by
      rcases List.mem_cons.mp ((h x).mp List.mem_cons_self) with e | m
      · exact e
      · rcases List.mem_cons.mp ((h y).mpr List.mem_cons_self) with e | m'
        · exact e.symm
        · exact absurd (u1 y m') (v1 x m).asymm
    subst e
    rw [up_one u2 v2 fun z => ?_]
    constructor
    · intro m
      rcases List.mem_cons.mp ((h z).mp (List.mem_cons_of_mem _ m)) with e | q
      · exact absurd e.symm (u1 z m).ne
      · exact q
    · intro m
      rcases List.mem_cons.mp ((h z).mpr (List.mem_cons_of_mem _ m)) with e | q
      · exact absurd e.symm (v1 z m).ne
      · exact q
theorem nodup_le {α : Type} [DecidableEq α] : ∀ {l m : List α}, l.Nodup → l ⊆ m → l.length ≤ m.length
  | [], _, _, _ => Nat.zero_le _
  | x :: l, m, nd, sub => by
    obtain ⟨n1, n2⟩ := List.nodup_cons.mp nd
    have hx : x ∈ m := sub List.mem_cons_self
    have ih := nodup_le (m := m.erase x) n2 fun y hy => (List.mem_erase_of_ne (by rintro rfl; exact n1 hy)).mpr (sub (List.mem_cons_of_mem _ hy))
    rw [List.length_erase_of_mem hx] at ih
    have := List.length_pos_of_mem hx
    rw [List.length_cons]
    omega
theorem nodup_len {α : Type} [DecidableEq α] : ∀ {ys l : List α}, l.Nodup → l ⊆ ys → ys.length = l.length → ys.Nodup
  | [], _, _, _, _ => List.nodup_nil
  | y :: ys, l, nd, sub, e => by
    have hy : y ∈ l := Classical.byContradiction fun n => by
      have q := nodup_le (m := ys) nd fun z hz => (List.mem_cons.mp (sub hz)).resolve_left (by rintro rfl; exact n hz)
      rw [List.length_cons] at e
      omega
    have ny : y ∉ ys := fun m => by
      have q := nodup_le (m := ys) nd fun z hz => by
        rcases List.mem_cons.mp (sub hz) with rfl | h
        · exact m
        · exact h
      rw [List.length_cons] at e
      omega
    refine List.nodup_cons.mpr ⟨ny, nodup_len (l := l.erase y) (nd.erase y) (fun z hz => ?_) ?_⟩
    · obtain ⟨h1, h2⟩ := (nd.mem_erase_iff).mp hz
      exact (List.mem_cons.mp (sub h2)).resolve_left h1
    · rw [List.length_erase_of_mem hy, ← e, List.length_cons]; rfl
theorem sum_len {ys : List Str} {B : Nat} (h : ∀ y ∈ ys, y.length ≤ B) : (ys.map (·.length)).sum ≤ ys.length * B := by
  induction ys with
  | nil => simp
  | cons y ys ih =>
    rw [List.map_cons, List.sum_cons, List.length_cons, Nat.succ_mul]
    have a := h y List.mem_cons_self
    have b := ih fun z hz => h z (List.mem_cons_of_mem _ hz)
    omega
theorem flat_strs (zs : List Str) : (zs.map V.str).all flatV = true := by rw [List.all_map]; exact List.all_eq_true.mpr fun _ _ => rfl

/-! ### data that are compared -/
theorem dpS {K : PySem.W.Frag} {H : Hp} : ∀ zs : List Str, DpAll K H (zs.map V.str) (zs.map PyData.str)
  | [] => .nil
  | z :: zs => .cons (.str z) (dpS zs)
theorem dpB {K : PySem.W.Frag} {H : Hp} : ∀ bs : List Bool, DpAll K H (bs.map V.bl) (bs.map PyData.bool)
  | [] => .nil
  | b :: bs => .cons (.bl b) (dpB bs)
theorem eqvB : ∀ bs cs : List Bool, PyData.eqvAll (bs.map PyData.bool) (cs.map PyData.bool) = decide (bs = cs)
  | [], [] => rfl
  | [], _ :: _ => rfl
  | _ :: _, [] => rfl
  | b :: bs, c :: cs => by
    show ((b == c) && PyData.eqvAll (bs.map PyData.bool) (cs.map PyData.bool)) = _
    rw [eqvB bs cs]
    by_cases h : b = c <;> simp [h]
theorem eqvS : ∀ bs cs : List Str, PyData.eqvAll (bs.map PyData.str) (cs.map PyData.str) = decide (bs = cs)
  | [], [] => rfl
  | [], _ :: _ => rfl
  | _ :: _, [] => rfl
  | b :: bs, c :: cs => by
    show ((b == c) && PyData.eqvAll (bs.map PyData.str) (cs.map PyData.str)) = _
    rw [eqvS bs cs]
    by_cases h : b = c <;> simp [h]
theorem layB : ∀ bs : List Bool, PyData.canLayAll0 (bs.map PyData.bool) = true
  | [] => rfl
  | b :: bs => by show (true && PyData.canLayAll0 (bs.map PyData.bool)) = true; rw [layB bs]; rfl
theorem layS : ∀ zs : List Str, (∀ z ∈ zs, PyData.strOk z = true) → PyData.canLayAll0 (zs.map PyData.str) = true
  | [], _ => rfl
  | z :: zs, h => by
    show (PyData.strOk z && PyData.canLayAll0 (zs.map PyData.str)) = true
    rw [h z List.mem_cons_self, layS zs fun y hy => h y (List.mem_cons_of_mem _ hy)]; rfl
theorem depAll : ∀ {ds : List PyData}, (∀ d ∈ ds, PyData.depth d = 0) → PyData.depthAll ds = 0
  | [], _ => rfl
  | d :: ds, h => by
    show max (PyData.depth d) (PyData.depthAll ds) = 0
    rw [h d List.mem_cons_self, depAll fun y hy => h y (List.mem_cons_of_mem _ hy)]; rfl
theorem shB (bs : List Bool) : SeqAt.shaped (.list (bs.map PyData.bool)) = true := by
  refine Bool.and_eq_true_iff.mpr ⟨layB bs, decide_eq_true ?_⟩
  show PyData.depthAll (bs.map PyData.bool) + 1 ≤ 64
  rw [depAll fun d hd => by obtain ⟨b, _, rfl⟩ := List.mem_map.mp hd; rfl]
  decide
theorem shT {zs : List Str} (h : ∀ z ∈ zs, PyData.strOk z = true) : SeqAt.shaped (.tuple (zs.map PyData.str)) = true := by
  refine Bool.and_eq_true_iff.mpr ⟨layS zs h, decide_eq_true ?_⟩
  show PyData.depthAll (zs.map PyData.str) + 1 ≤ 64
  rw [depAll fun d hd => by obtain ⟨b, _, rfl⟩ := List.mem_map.mp hd; rfl]
  decide
theorem shL {zs : List Str} (h : ∀ z ∈ zs, PyData.strOk z = true) : SeqAt.shaped (.list (zs.map PyData.str)) = true := by
  refine Bool.and_eq_true_iff.mpr ⟨layS zs h, decide_eq_true ?_⟩
  show PyData.depthAll (zs.map PyData.str) + 1 ≤ 64
  rw [depAll fun d hd => by obtain ⟨b, _, rfl⟩ := List.mem_map.mp hd; rfl]
  decide
theorem IsName.ok {z : Str} (h : IsName z) : PyData.strOk z = true := by
  show z.cps.all (fun x => decide (x < 1114112)) = true
  rw [← Array.all_toList, List.all_eq_true]
  intro c hc
  have := (h.2.2 c hc).2
  exact decide_eq_true (by omega)
end Mf
/-! Classes and methods by one fact each; readings of the own operators. -/
namespace Mf
open PySem L2
/-- C(..): the class at C, its __init__'s promise, the defaults that fill up -/
structure CalC (P : Program) (w : World) (K : PySem.W.Frag) (mg : Str → Option Value) (base : Heap) (CX : CXT) (k : Nat) (x : Str) (C : Addr) (ps : List Str) (sp : Sp) (dvs : List V) : Prop where
  ex : ∃ (f : Addr) (fd : FuncData) (ds : List Value), Mk K C f ∧ FnOk P w K mg base CX k f fd ps sp ∧ mg x = some (.ref C) ∧ Binds K fd ps ds ∧ Vals dvs ds
/-- a method -/
structure CalM (P : Program) (w : World) (K : PySem.W.Frag) (mg : Str → Option Value) (base : Heap) (CX : CXT) (k : Nat) (C : Addr) (m : Str) (ps : List Str) (sp : Sp) : Prop where
  ex : ∃ (f : Addr) (fd : FuncData), Meth K C m f ∧ PySem.W.fnIn K f = true ∧ FnOk P w K mg base CX k f fd ps sp ∧ Binds K fd ps []
section
variable {X : Cx} {CX : CXT} {k : Nat} {x m : Str} {C : Addr} {ps : List Str} {sp : Sp} {dvs : List V} {E : XK} {e o : Expr} {es : List Expr} {t : TA} {p pos apos : Pos} {ta to ti : TE}
theorem pe_mkc (c : CalC X.prog X.w X.K X.mg X.base CX k x C ps sp dvs) (hr : Room (k + 1) X.A) (hx : Passes CX X E) (ha : PA X (e :: es) t) (hg : Gl X x := by rfl)
    (hdb : (x == ("__debug__" : Str)) = false := by decide) (he : starEach (e :: es) X.env = (false, eval e X.env) :: starEach es X.env := by rfl) (hpl : (backTo pos (starEach es X.env)).any (·.1) = false := by rfl) :
    PE X (.Call (.Name x p) (e :: es) [] pos) (tMake C sp dvs E t) := by
  obtain ⟨f, fd, ds, M, F, mm, b, v⟩ := c.ex
  exact pe_make M F hr hg mm b v hx ha hdb he hpl
theorem pe_mkc0 (c : CalC X.prog X.w X.K X.mg X.base CX k x C ps sp dvs) (hr : Room (k + 1) X.A) (hx : Passes CX X E) (hg : Gl X x := by rfl) (hdb : (x == ("__debug__" : Str)) = false := by decide) :
    PE X (.Call (.Name x p) [] [] pos) (tMake C sp dvs E tNil) := by
  obtain ⟨f, fd, ds, M, F, mm, b, v⟩ := c.ex
  exact pe_make0 M F hr hg mm b v hx hdb
theorem om_cmp {op : CmpOp} (K : PySem.W.Frag) (c : CalM X.prog X.w X.K X.mg X.base CX k C (cmpInfo op).2.1 ps sp) (hr : Room k X.A) (hx : Passes CX X E) (hop : ∀ a b, compareOp op a b = richCompare op a b := by exact fun _ _ => rfl) (h : X.K = K := by rfl) : OpR X (compareOp op) (rCmpO K C sp E) := by
  obtain ⟨f, fd, M, _, F, b⟩ := c.ex
  exact h ▸ op_cmpO M F hr b hx hop
theorem om_ne (K : PySem.W.Frag) (c : CalM X.prog X.w X.K X.mg X.base CX k C "__eq__" ps sp) (ne : PySem.W.findIn X.K (.ref C) "__ne__" = some (some (.builtin "object.__ne__"))) (mo : PySem.W.mroIn X.K C (.type "object") = some true)
    (hr : Room (k + 1) X.A) (hx : Passes CX X E) (h : X.K = K := by rfl) : OpR X (compareOp .NotEq) (rNeO K C sp E) := by
  obtain ⟨f, fd, M, _, F, b⟩ := c.ex
  exact h ▸ op_neO M ne mo F hr b hx
theorem om_bin {op : Operator} (c : CalM X.prog X.w X.K X.mg X.base CX k C (PySem.dunder op.info.2) ps sp) (sf : PySem.W.selfFirst X.K C = true) (hr : Room k X.A) (hx : Passes CX X E) : OpR X (binaryOp op) (rBinO C sp E) := by
  obtain ⟨f, fd, M, _, F, b⟩ := c.ex
  exact op_binO M sf F hr b hx
theorem om_in (c : CalM X.prog X.w X.K X.mg X.base CX k C "__contains__" ps sp) (hr : Room k X.A) (hx : Passes CX X E) : OpR X (compareOp .In) (rInO C false sp E) := by
  obtain ⟨f, fd, M, _, F, b⟩ := c.ex
  exact op_inO M F hr b hx
theorem om_notIn (c : CalM X.prog X.w X.K X.mg X.base CX k C "__contains__" ps sp) (hr : Room k X.A) (hx : Passes CX X E) : OpR X (compareOp .NotIn) (rInO C true sp E) := by
  obtain ⟨f, fd, M, _, F, b⟩ := c.ex
  exact op_notInO M F hr b hx
theorem om_len (c : CalM X.prog X.w X.K X.mg X.base CX k C "__len__" ps sp) (hr : Room (k + 1) X.A) (hx : Passes CX X E) : CallR X (.builtin "len") (rLenO C sp E) := by
  obtain ⟨f, fd, M, _, F, b⟩ := c.ex
  exact call_lenO M F hr b hx
theorem om_get {i : Expr} (c : CalM X.prog X.w X.K X.mg X.base CX k C "__getitem__" ps sp) (hr : Room (k + 1) X.A) (hx : Passes CX X E) (ho : PE X o to) (hi : PE X i ti)
    (hsl : ∀ x y, subscripted i true x y = runValue (.builtin "lifetime.subscript" ⟨[x, y], []⟩) := by intro _ _; with_unfolding_all rfl) : PE X (.Subscript o i pos) (tOp (rGetO C sp E) to ti) := by
  obtain ⟨f, fd, M, fn, F, b⟩ := c.ex
  exact pe_getO M fn F hr b hx ho hi hsl
theorem om_meth {pl : Sem Bool} (he : PE X o ta) (c : Cls X.K C) (cm : CalM X.prog X.w X.K X.mg X.base CX k C m ps sp) (hr : Room k X.A) (hx : Passes CX X E) (ha : PA X (e :: es) t)
    (hst : starEach (e :: es) X.env = (false, eval e X.env) :: starEach es X.env := by rfl) (hpl : (backTo pos (starEach es X.env)).any (·.1) = false := by rfl)
    (ht : eval (.Call (.Attribute o m apos) (e :: es) [] pos) X.env = (do
      let ov ← eval o X.env
      standAt apos.atName
      let (f, first) ← holding [ov] (getMethod ov m pl)
      callWith pos f first (backTo pos (starEach (e :: es) X.env)) (backToKw pos (keywordEach [] X.env))) := by rfl) :
    PE X (.Call (.Attribute o m apos) (e :: es) [] pos) (tMeth C m sp [] E ta t) := by
  obtain ⟨f, fd, M, fn, F, b⟩ := cm.ex
  exact pe_meth he c M F hr b .nil hx ha hst hpl ht
theorem om_meth0 {pl : Sem Bool} (he : PE X o ta) (c : Cls X.K C) (cm : CalM X.prog X.w X.K X.mg X.base CX k C m ps sp) (hr : Room k X.A) (hx : Passes CX X E)
    (ht : eval (.Call (.Attribute o m apos) [] [] pos) X.env = (do
      let ov ← eval o X.env
      standAt apos.atName
      let (f, first) ← holding [ov] (getMethod ov m pl)
      callWith pos f first (backTo pos (starEach [] X.env)) (backToKw pos (keywordEach [] X.env))) := by rfl) :
    PE X (.Call (.Attribute o m apos) [] [] pos) (tMeth C m sp [] E ta tNil) := by
  obtain ⟨f, fd, M, fn, F, b⟩ := cm.ex
  exact pe_meth0 he c M F hr b .nil hx ht
end
/-- c and b, where b is asked without a change of the heap -/
theorem and_then {c b : Bool} {σ : L2.St} {H : Hp} {tb : TE} {Q : VK} (ht : c = true → ∀ Q' : VK, Q' (.bl b) H → tb σ H Q') (k : Q (.bl (c && b)) H) : if c = true then tb σ H Q else Q (.bl false) H := by
  cases c with
  | true => exact iteT (ht rfl Q (by simpa using k))
  | false => exact iteF k
end Mf
/-! From the head's facts to calls. -/
namespace Mf
open PySem L2
theorem kit_self {K : PySem.W.Frag} {C : Addr} : PySem.W.kitOne K (.ref C) (.ref C) = some true := by unfold PySem.W.kitOne; rw [if_pos (by simp)]
theorem kit_own {K : PySem.W.Frag} {C : Addr} {T : String} {b : Bool} (i : PySem.W.isClsIn K C = true) (t : PySem.W.typeIn K (.ref C) = some (.type "type")) (s : PySem.W.subIn K (.type T) (.ref C) = some b) : PySem.W.kitOne K (.type T) (.ref C) = some b := by
  have i' : (PySem.W.clsIn K C).isSome = true := i
  unfold PySem.W.kitOne PySem.W.kitCls
  rw [if_neg (by simp)]
  show (if ((PySem.W.clsIn K C).isSome && PySem.W.typeIn K (.ref C) == some (.type "type")) = true then PySem.W.subIn K (.type T) (.ref C) else none) = some b
  rw [if_pos (by rw [i', t]; rfl)]
  exact s
theorem notFirst_of {K : PySem.W.Frag} {C : Addr} {T : String} (s : PySem.W.subIn K (.type T) (.ref C) = some false) : PySem.W.notFirst K C (.type T) = true := by
  unfold PySem.W.notFirst
  rw [s]; simp
/-- a def of the text as it stands behind the top -/
structure DefF (K : PySem.W.Frag) (x : Str) (st : Stmt) (f : Addr) : Prop where
  ex : ∃ (oc : Value) (od : Option Addr) (sl : Array (Option Value)) (kV dc pm : Value) (an : Option Addr) (cd ct : Value), PySem.W.nsIn K mainGlobals x = some (some (.ref f)) ∧
    K.lookup f = some ⟨oc, od, .func (PySem.W.fnOf x x (defArgs st) (defBody st) (defScope st) .none kV dc pm an cd ct), sl⟩ ∧ PySem.W.codeIn K cd x = true ∧ PySem.W.keepIn K (.ref f) = true
/-- a method of the class at C -/
structure MetF (K : PySem.W.Frag) (C : Addr) (m qual : Str) (st : Stmt) (f : Addr) : Prop where
  ex : ∃ (oc : Value) (od : Option Addr) (sl : Array (Option Value)) (kV dc pm : Value) (an : Option Addr) (cd ct : Value), PySem.W.findIn K (.ref C) m = some (some (.ref f)) ∧
    K.lookup f = some ⟨oc, od, .func (PySem.W.fnOf m qual (defArgs st) (defBody st) (defScope st) .none kV dc pm an cd ct), sl⟩ ∧ PySem.W.codeIn K cd qual = true ∧ PySem.W.keepIn K (.ref f) = true ∧ PySem.W.isFn K (.ref f) = true ∧ PySem.W.fnIn K f = true
section
variable {P : Program} {w : World} {K : PySem.W.Frag} {mg : Str → Option Value} {base h : Heap} {CX : CXT} {k : Nat} {x m qual : Str} {st : Stmt} {f C : Addr} {ps : List Str} {sp : Sp}
abbrev BindP (x qual : Str) (st : Stmt) (ps : List Str) : Prop := ∀ (kV doc pm : Value) (an : Option Addr) (cdv ct : Value) (us : List Value), us.length = ps.length → bindArgs (PySem.W.fnOf x qual (defArgs st) (defBody st) (defScope st) .none kV doc pm an cdv ct) ⟨us, []⟩ = pure (ps.zip us)
theorem DefF.cal (D : DefF K x st f) (X : K.In h) (G : h.Ns mainGlobals mg) (hb : BindP x x st ps) (ok : ∀ fd, Fun K x x st f fd → FnOk P w K mg base CX k f fd ps sp) : Cal P w K mg base CX k x ps sp := by
  obtain ⟨oc, od, sl, kV, dc, pm, an, cd, ct, a, l, c, q⟩ := D.ex
  have F := fun_mk (st := st) l c q
  exact ⟨⟨f, _, ok _ F, PySem.W.mg_of X G a, q, F.binds hb⟩⟩
theorem MetF.cal (D : MetF K C m qual st f) (hb : BindP m qual st ps) (ok : ∀ fd, Fun K m qual st f fd → FnOk P w K mg base CX k f fd ps sp) : CalM P w K mg base CX k C m ps sp := by
  obtain ⟨oc, od, sl, kV, dc, pm, an, cd, ct, a, l, c, q, i, n⟩ := D.ex
  have F := fun_mk (st := st) l c q
  exact ⟨⟨f, _, ⟨a, i, q⟩, n, ok _ F, F.binds hb⟩⟩
/-- the law itself -/
theorem DefF.law {fa : Addr} (D : DefF K "law" st f) (X : K.In h) (G : h.Ns mainGlobals mg) (hfa : mg "law" = some (.ref fa)) (hb : ∀ (kV doc pm : Value) (an : Option Addr) (cdv ct : Value) (s : Shared) (v : Value), BindsTo s (PySem.W.fnOf "law" "law" (defArgs st) (defBody st) (defScope st) .none kV doc pm an cdv ct) ⟨[v], []⟩ [("_law_script", v)])
    (ok : ∀ base : Heap, K.In base → base.Ns mainGlobals mg → ∀ fd, Fun K "law" "law" st f fd → FnOk P w K mg base CX0 k f fd ["_law_script"] sp) :
    ∃ fd : FuncData, (∀ (s : Shared) (v : Value), BindsTo s fd ⟨[v], []⟩ [("_law_script", v)]) ∧ ∀ base : Heap, K.In base → base.Ns mainGlobals mg → FnOk P w K mg base CX0 k fa fd ["_law_script"] sp := by
  obtain ⟨oc, od, sl, kV, dc, pm, an, cd, ct, a, l, c, q⟩ := D.ex
  have e := hfa.symm.trans (PySem.W.mg_of X G a)
  cases e
  exact ⟨_, hb kV dc pm an cd ct, fun base b1 b2 => ok base b1 b2 _ (fun_mk (st := st) l c q)⟩
/-- what a law takes and gives -/
def spLaw (K : PySem.W.Frag) : Sp := fun vs H Q _ => ∃ (a : Addr) (ns : List Int), vs = [.ref a] ∧ SqL K H a (ns.map V.int) ∧ ns.length ≤ 63 ∧ ∀ H', Q (.bl true) H'
end
theorem walk {n : Nat} {l : PySem.W.OpenLaw} {q : Program} {loose : List Str} {XP : (Str → Option Value) → Heap → Prop} {YP : World → Heap → Prop} {d : DefRec} {K : Params → PySem.W.Frag} (hn : l.most = some 63) (hdf : d.params.defaults = [])
    (hr : Room n callerA)
    (hY : ∀ (w : World) (h : Heap), YP w h → (K w.params).In h)
    (F : ∀ (w : World) (mg : Str → Option Value) (fa : Addr) (h : Heap), (K w.params).In h → h.Ns mainGlobals mg → mg d.name = some (.ref fa) →
      ∃ fd : FuncData, (∀ (s : Shared) (u : Value), BindsTo s fd ⟨[u], []⟩ [("_law_script", u)]) ∧ ∀ base : Heap, (K w.params).In base → base.Ns mainGlobals mg → FnOk l.prog w (K w.params) mg base CX0 n fa fd ["_law_script"] (spLaw (K w.params))) :
    PySem.W.WalkO q loose XP YP l.row.toRowW d [] (fun f vs => PySem.call f vs) :=
  L2.walk_of (n := 63) (k := n) (x := "_law_script") (CX := fun _ => CX0) (sp := fun w => spLaw (K w.params)) hn (by decide) hdf hr hY F (fun _ _ a ns hl _ hS => ⟨a, ns, rfl, hS, hl, fun _ => rfl⟩) fun _ _ _ _ _ z => z
end Mf
/-! Counting loops that begin at another number. -/
namespace Mf
open PySem L2

/-- what such a loop yields; G i H x: the i-th thing is x -/
def ItN (k₀ : Int) (go : Nat → Hp → Prop) (stop : Nat → Hp → Prop) (is : Nat → Hp → V → Prop) : It :=
  { go := go, stop := stop, yld := fun i H v H' => ∃ T x, v = .ref T ∧ H T = none ∧ H' = upd H T (.tup [.int (k₀ + i), x]) ∧ is i H x }

/-- the turns, over any source that draws -/
theorem turn_from {P : Program} {w : World} {K : W.Frag} {elts : List PySem.Expr} {kk : Nat} {tpos : Pos} (k₀ : Int) (e it : Addr)
    {go stop : Nat → Hp → Prop} {is : Nat → Hp → V → Prop} {SI : Nat → Heap → Prop}
    (obj : ∀ i h, SI i h → ∃ o, h.get? it = some o ∧ ∀ v : Option Value, o.data ≠ .cell v)
    (keep : ∀ i h h', SI i h → (∀ o, h.get? it = some o → h'.get? it = some o) → SI i h')
    (src : ∀ (X : Cx), X.prog = P → X.w = w → X.K = K → X.calm = true → ∀ (i : Nat) (pins : List (Addr × Obj)) (s : Shared) (σ : St) (H : Hp),
      L2.Inv X pins σ H s → (∀ b ∈ [e, it], FpOk X pins H b) → (∃ old, IsEnum s.heap e it (k₀ + i) old) → SI i s.heap → e ≠ it → (go i H ∨ stop i H) →
      ∃ (n : Nat) (fp : List Addr) (S : Nat → Heap → Prop) (Q : Nat → Value → Prop), Draws P w (Around.in1 X.A) it fp n Q S ∧ S i s.heap ∧ e ∉ fp ∧
        (go i H → i < n) ∧ (stop i H → i = n) ∧ (∀ h, S (i + 1) h → SI (i + 1) h) ∧ ∀ v, Q i v → go i H → ∃ x, RelV x v ∧ is i H x) :
    Turn P w K (.Tuple elts kk tpos) (ItN k₀ go stop is) [e, it] e fun i h => (∃ old, IsEnum h e it (k₀ + i) old) ∧ SI i h ∧ e ≠ it := by
  have mE : e ∈ [e, it] := List.mem_cons_self
  have mI : it ∈ [e, it] := List.mem_cons_of_mem _ List.mem_cons_self
  refine ⟨mE, ?_, ?_, ?_, ?_, ?_⟩
  · rintro i h ⟨⟨old, he⟩, hi, ne⟩ b hb
    simp only [List.mem_cons, List.not_mem_nil, or_false] at hb
    rcases hb with rfl | rfl
    · exact ⟨_, he, fun v q => nomatch q⟩
    · exact obj i h hi
  · rintro i h h' ⟨⟨old, he⟩, hi, ne⟩ k
    exact ⟨⟨old, k e mE _ he⟩, keep i h h' hi (k it mI), ne⟩
  · rintro X hP hw hK hc i pins s σ H E I hf ⟨⟨old, he⟩, hi, ne⟩ hg
    obtain ⟨n, fp, S, Q, D, s0, nf, lt, -, fw, rel⟩ := src X hP hw hK hc i pins s σ H I hf ⟨old, he⟩ hi ne (.inl hg)
    refine wpAny_pyNext_enum_itemC D he s0 (lt hg) ne nf fun x h' tk qx ho hS hT hsz hk => ?_
    refine ⟨_, rfl, wpAny_letOwnedTupleGo_enum ho fun h'' he' sb => ?_⟩
    obtain ⟨y, ry, iy⟩ := rel x qx hg
    have hel := Heap.lt_size he
    have hil : it < s.heap.objs.size := by obtain ⟨o, q, _⟩ := obj i _ hi; exact Heap.lt_size q
    have hT2 := (sb.right s.heap.objs.size (Nat.ne_of_gt hel)).trans hT
    have new : ObjOk X.prog X.w (upd H s.heap.objs.size (.tup [.int (k₀ + i), y])) h'' s.heap.objs.size (.tup [.int (k₀ + i), y]) :=
      ⟨(by show 2 ≤ sizeLine; decide), [.int (k₀ + i) tk, x], .cons ⟨tk, rfl⟩ (.cons ry .nil), _, hT2, rfl, 0, rfl⟩
    have I1 := I.turnedNew (t' := tk + 1) (fun b ob hb q => (sb.right b fun z => hb (z ▸ mE)).trans (hk b ob (fun z => hb (z ▸ mE)) (fun z => hb (z ▸ mI)) q)) hf (Nat.le_refl _) new
    refine ⟨.ref s.heap.objs.size, _, I1, rfl, ⟨_, y, rfl, I.hok.fresh (Nat.le_refl _), rfl, iy⟩, ⟨⟨x, ?_⟩, ?_, ne⟩, ?_⟩
    · have e1 : k₀ + ((i + 1 : Nat) : Int) = k₀ + i + 1 := by omega
      rw [e1]; exact he'
    · exact keep (i + 1) h' h'' (fw _ hS) fun o q => (sb.right it (Ne.symm ne)).trans q
    · intro b hb
      have hb' : b < s.heap.objs.size := by
        simp only [List.mem_cons, List.not_mem_nil, or_false] at hb
        rcases hb with rfl | rfl <;> assumption
      rw [upd_ne (Nat.ne_of_lt hb')]
      exact (hf b hb).1
  · rintro X hP hw hK hc i pins s σ H E I hf ⟨⟨old, he⟩, hi, ne⟩ hg
    obtain ⟨n, fp, S, Q, D, s0, nf, -, eq, -, -⟩ := src X hP hw hK hc i pins s σ H I hf ⟨old, he⟩ hi ne (.inr hg)
    obtain ⟨f0, f1, f2, f3, f4, f5⟩ := hf it mI
    have hin := eq hg
    subst hin
    exact wpAny_pyNext_enum_endD D he s0 fun h' eb => ⟨rfl, I.turned (fun b o hb q => eb b o hb q) f0 f1 f3 f4 f5⟩
  · rintro A i s Q E ⟨⟨old, he⟩, _⟩ h
    exact wpAny_pyIter_enum he h
end Mf
namespace Mf
open PySem L2
theorem callType_kw {M : Model} {A : Around} {E : Value → Shared → Prop} {s : Shared} {env : Env} {pos : Pos} {T : String} {e : Expr} {rest : List Expr} {kws : List Keyword} {Q : Value → Shared → Prop}
    (h : wpAny M A (spliced (backTo pos (starEach (e :: rest) env))) (fun vs s₁ => wpAny M A (evalAll ((backToKw pos (keywordEach kws env)).map (·.2)))
      (fun ks s₂ => wpAny M A (call (.type T) vs (((backToKw pos (keywordEach kws env)).filterMap (·.1)).zip ks)) Q E s₂) E s₁) E s)
    (h0 : backTo pos (starEach (e :: rest) env) = (false, eval e env) :: backTo pos (starEach rest env))
    (h1 : (backTo pos (starEach (e :: rest) env)).any (·.1) = false) (h2 : (backToKw pos (keywordEach kws env)).all (fun x => x.1.isSome) = true)
    (h3 : (backToKw pos (keywordEach kws env)).any (fun x => x.1.isNone) = false) :
    wpAny M A (callWith pos (.type T) [] (backTo pos (starEach (e :: rest) env)) (backToKw pos (keywordEach kws env))) Q E s := by
  rw [h0] at h h1 ⊢
  unfold callWith
  refine wpAny_bind (wpAny_holding (evalArgs_kw h2 (wpAny_mono h ?_ fun _ _ q => q)))
  intro vs s1 h
  refine wpAny_mono h ?_ fun _ _ q => q
  intro ks s2 h
  rw [h1, h3]
  refine wpAny_bind (wpAny_standAt ?_)
  refine wpAny_bind (wpAny_pure ?_)
  refine wpAny_bind (wpAny_mono h ?_ fun _ _ q => q)
  intro v s3 q
  exact wpAny_bind (wpAny_holding (wpAny_point (wpAny_pure q)))

/-- enumerate(.., start=k₀) over a list or a tuple -/
def iEnumS (K : W.Frag) (k₀ : Int) (te : TA) : TI := fun σ H R => te σ H fun vs H1 => ∃ (a : Addr) (xs : List V), vs = [.ref a] ∧
  ((SqL K H1 a xs ∧ R (ItN k₀ (fun i H => ∃ xs x, SqL K H a xs ∧ xs[i]? = some x) (fun i H => ∃ xs, SqL K H a xs ∧ xs.length = i) fun i H x => ∀ xs, SqL K H a xs → xs[i]? = some x) H1) ∨
   (SqT K H1 a xs ∧ R (ItN k₀ (fun i H => ∃ xs x, SqT K H a xs ∧ xs[i]? = some x) (fun i H => ∃ xs, SqT K H a xs ∧ xs.length = i) fun i H x => ∀ xs, SqT K H a xs → xs[i]? = some x) H1))
theorem back_get {xs : List V} {us : List Value} (r : Vals xs us) {i : Nat} {u : Value} (h : us[i]? = some u) : ∃ x, RelV x u ∧ xs[i]? = some x := by
  have hi : i < us.length := by
    rcases Nat.lt_or_ge i us.length with q | q
    · exact q
    · rw [List.getElem?_eq_none q] at h; cases h
  rw [← r.length] at hi
  obtain ⟨u', hu, ru⟩ := Vals.get r (List.getElem?_eq_getElem hi)
  rw [h] at hu
  cases hu
  exact ⟨_, ru, List.getElem?_eq_getElem hi⟩
theorem turn_fromL {P : Program} {w : World} {K : W.Frag} {elts : List Expr} {kk : Nat} {tpos : Pos} (k₀ : Int) (e it a : Addr) :
    Turn P w K (.Tuple elts kk tpos) (ItN k₀ (fun i H => ∃ xs x, SqL K H a xs ∧ xs[i]? = some x) (fun i H => ∃ xs, SqL K H a xs ∧ xs.length = i) fun i H x => ∀ xs, SqL K H a xs → xs[i]? = some x) [e, it] e
      fun i h => (∃ old, IsEnum h e it (k₀ + i) old) ∧ Heap.IsListIter h it a i ∧ e ≠ it := by
  refine turn_from k₀ e it ?_ ?_ ?_
  · rintro i h ⟨o, ho, hc, hd⟩
    exact ⟨o, ho, fun v q => by rw [hd] at q; cases q⟩
  · intro i h h' q k
    exact q.at fun o z => k o z
  · rintro X rfl rfl rfl hc i pins s σ H I hf ⟨old, he⟩ hi ne hg
    have key : ∀ xs, SqL X.K H a xs → ∃ (n : Nat) (fp : List Addr) (S : Nat → Heap → Prop) (Q : Nat → Value → Prop), Draws X.prog X.w (Around.in1 X.A) it fp n Q S ∧ S i s.heap ∧ e ∉ fp ∧
        n = xs.length ∧ (∀ h, S (i + 1) h → Heap.IsListIter h it a (i + 1)) ∧ ∀ v, Q i v → ∃ x, RelV x v ∧ xs[i]? = some x := by
      intro xs hq
      obtain ⟨its, rv, p, hz⟩ := I.list hq
      have pl := p.isList
      have n1 : a ≠ it := fun q => by
        obtain ⟨o, ho, hc, _⟩ := pl
        obtain ⟨o', ho', hc', _⟩ := hi
        rw [q, ho'] at ho; cases ho; rw [hc'] at hc; injection hc with hc; exact absurd hc (by decide)
      have n2 : a ≠ e := fun q => by
        obtain ⟨o, ho, hc, _⟩ := pl
        have he' : s.heap.get? e = _ := he
        rw [q, he'] at ho; cases ho; injection hc with hc; exact absurd hc (by decide)
      refine ⟨_, _, _, _, Draws.list (show (Around.in1 X.A).handled = none from I.ok.hd hc) it a n1 its.toArray, ⟨hi, pl⟩, ?_, ?_, fun h q => q.1, ?_⟩
      · intro q
        simp only [List.mem_cons, List.not_mem_nil, or_false] at q
        rcases q with q | q
        · exact ne q
        · exact n2 q.symm
      · rw [List.size_toArray, rv.length]
      · intro v hv
        have hv : its[i]? = some v := by rw [← List.getElem?_toArray]; exact hv
        exact back_get rv hv
    rcases hg with ⟨xs, x, hq, hx⟩ | ⟨xs, hq, hx⟩
    · obtain ⟨n, fp, S, Q, D, s0, nf, hn, fw, rel⟩ := key xs hq
      refine ⟨n, fp, S, Q, D, s0, nf, fun _ => ?_, ?_, fw, fun v qv _ => ?_⟩
      · rw [hn]
        rcases Nat.lt_or_ge i xs.length with q | q
        · exact q
        · rw [List.getElem?_eq_none q] at hx; cases hx
      · rintro ⟨ys, hy, rfl⟩
        rw [hn, I.list_inj hq hy]
      · obtain ⟨x', rx, hx'⟩ := rel v qv
        exact ⟨x', rx, fun ys hy => by rw [I.list_inj hy hq]; exact hx'⟩
    · obtain ⟨n, fp, S, Q, D, s0, nf, hn, fw, rel⟩ := key xs hq
      refine ⟨n, fp, S, Q, D, s0, nf, ?_, fun _ => by rw [hn, hx], fw, fun v qv _ => ?_⟩
      · rintro ⟨ys, y, hy, hyi⟩
        rw [I.list_inj hy hq, List.getElem?_eq_none (by omega)] at hyi; cases hyi
      · obtain ⟨x', rx, hx'⟩ := rel v qv
        exact ⟨x', rx, fun ys hy => by rw [I.list_inj hy hq]; exact hx'⟩
theorem isTuple_of {h : Heap} {a : Addr} {its : Array Value} (p : PyProof.Rows.IsTup h a its) : Heap.IsTuple h a its := p
theorem turn_fromT {P : Program} {w : World} {K : W.Frag} {elts : List Expr} {kk : Nat} {tpos : Pos} (k₀ : Int) (e it a : Addr) :
    Turn P w K (.Tuple elts kk tpos) (ItN k₀ (fun i H => ∃ xs x, SqT K H a xs ∧ xs[i]? = some x) (fun i H => ∃ xs, SqT K H a xs ∧ xs.length = i) fun i H x => ∀ xs, SqT K H a xs → xs[i]? = some x) [e, it] e
      fun i h => (∃ old, IsEnum h e it (k₀ + i) old) ∧ Heap.IsTupleIter h it a i ∧ e ≠ it := by
  refine turn_from k₀ e it ?_ ?_ ?_
  · rintro i h ⟨o, ho, hc, hd⟩
    exact ⟨o, ho, fun v q => by rw [hd] at q; cases q⟩
  · intro i h h' q k
    exact q.at fun o z => k o z
  · rintro X rfl rfl rfl hc i pins s σ H I hf ⟨old, he⟩ hi ne hg
    have key : ∀ xs, SqT X.K H a xs → ∃ (n : Nat) (fp : List Addr) (S : Nat → Heap → Prop) (Q : Nat → Value → Prop), Draws X.prog X.w (Around.in1 X.A) it fp n Q S ∧ S i s.heap ∧ e ∉ fp ∧
        n = xs.length ∧ (∀ h, S (i + 1) h → Heap.IsTupleIter h it a (i + 1)) ∧ ∀ v, Q i v → ∃ x, RelV x v ∧ xs[i]? = some x := by
      intro xs hq
      obtain ⟨its, rv, p, hz⟩ := I.tuple hq
      have pl := isTuple_of p
      have n1 : a ≠ it := fun q => by
        obtain ⟨o, ho, hc, _⟩ := pl
        obtain ⟨o', ho', hc', _⟩ := hi
        rw [q, ho'] at ho; cases ho; rw [hc'] at hc; injection hc with hc; exact absurd hc (by decide)
      have n2 : a ≠ e := fun q => by
        obtain ⟨o, ho, hc, _⟩ := pl
        have he' : s.heap.get? e = _ := he
        rw [q, he'] at ho; cases ho; injection hc with hc; exact absurd hc (by decide)
      refine ⟨_, _, _, _, Draws.tuple (show (Around.in1 X.A).handled = none from I.ok.hd hc) it a n1 its.toArray, ⟨hi, pl⟩, ?_, ?_, fun h q => q.1, ?_⟩
      · intro q
        simp only [List.mem_cons, List.not_mem_nil, or_false] at q
        rcases q with q | q
        · exact ne q
        · exact n2 q.symm
      · rw [List.size_toArray, rv.length]
      · intro v hv
        have hv : its[i]? = some v := by rw [← List.getElem?_toArray]; exact hv
        exact back_get rv hv
    rcases hg with ⟨xs, x, hq, hx⟩ | ⟨xs, hq, hx⟩
    · obtain ⟨n, fp, S, Q, D, s0, nf, hn, fw, rel⟩ := key xs hq
      refine ⟨n, fp, S, Q, D, s0, nf, fun _ => ?_, ?_, fw, fun v qv _ => ?_⟩
      · rw [hn]
        rcases Nat.lt_or_ge i xs.length with q | q
        · exact q
        · rw [List.getElem?_eq_none q] at hx; cases hx
      · rintro ⟨ys, hy, rfl⟩
        rw [hn, I.tuple_inj hq hy]
      · obtain ⟨x', rx, hx'⟩ := rel v qv
        exact ⟨x', rx, fun ys hy => by rw [I.tuple_inj hy hq]; exact hx'⟩
    · obtain ⟨n, fp, S, Q, D, s0, nf, hn, fw, rel⟩ := key xs hq
      refine ⟨n, fp, S, Q, D, s0, nf, ?_, fun _ => by rw [hn, hx], fw, fun v qv _ => ?_⟩
      · rintro ⟨ys, y, hy, hyi⟩
        rw [I.tuple_inj hy hq, List.getElem?_eq_none (by omega)] at hyi; cases hyi
      · obtain ⟨x', rx, hx'⟩ := rel v qv
        exact ⟨x', rx, fun ys hy => by rw [I.tuple_inj hy hq]; exact hx'⟩
theorem pi_enumS {X : Cx} {e : Expr} {ta : TA} {p pos tpos kp cq : Pos} {cp : Nat} {elts : List Expr} {kk : Nat} {k₀ : Int} (hg : Gl X "enumerate") (hm : X.mg "enumerate" = none) (ha : PA X [e] ta)
    (b0 : -2 ^ 63 ≤ k₀) (b1 : k₀ < 2 ^ 63)
    (h0 : backTo pos (starEach [e] X.env) = (false, eval e X.env) :: backTo pos (starEach [] X.env) := by rfl)
    (h1 : (backTo pos (starEach [e] X.env)).any (·.1) = false := by rfl) :
    PI X (.Tuple elts kk tpos) (.Call (.Name "enumerate" p) [e] [⟨some "start", .Constant (.int k₀) cp cq, kp⟩] pos) (iEnumS X.K k₀ ta) := by
  refine ⟨fun pins s σ H R I h => wpAny_Call_Name_kw (ld_blt I hg hm PyProof.Rows.boot_enumerate (callType_kw (thn (ha.run pos pins s σ H _ I h) ?_) h0 h1 rfl rfl))⟩
  rintro us s1 ⟨vs, H1, I1, r1, q1⟩
  have pk : PK X [⟨some "start", .Constant (.int k₀) cp cq, kp⟩] (tCons (tC (.int k₀)) tNil) := pk_cons pe_int pk_nil
  refine thn (pk.run pos pins s1 σ H1 (fun zs H' => zs = [.int k₀] ∧ H' = H1) I1 ⟨rfl, rfl⟩) ?_
  rintro ks s2 ⟨zs, H2, I2, r2, rfl, rfl⟩
  match ks, r2 with
  | [_], .cons ⟨t, ht⟩ .nil =>
    subst ht
    obtain ⟨a, xs, rfl, q1⟩ := q1
    match us, r1 with
    | [_], .cons ra .nil =>
      have ra : _ = Value.ref a := ra
      subst ra
      rcases q1 with ⟨hq, q⟩ | ⟨hq, q⟩
      · obtain ⟨its, rv, p', hz⟩ := I2.list hq
        refine enum_begins_start (begins_list a its.toArray) p'.isList b0 b1 fun h' he ho hsz hk => ?_
        refine wpAny_pyIter_enum he ?_
        have I3 := I2.kept (t' := s2.toks) hk
        refine ⟨_, [s2.heap.objs.size + 1, s2.heap.objs.size], _, _, H2, rfl, I3, turn_fromL k₀ _ _ a, ⟨⟨_, by simpa using he⟩, ⟨_, ho, rfl, rfl⟩, Nat.succ_ne_self _⟩, ?_, q⟩
        intro b hb
        simp only [List.mem_cons, List.not_mem_nil, or_false] at hb
        rcases hb with rfl | rfl
        · exact I2.fpOk (Nat.le_succ _) (I2.hok.fresh (Nat.le_succ _))
        · exact I2.fpOk (Nat.le_refl _) (I2.hok.fresh (Nat.le_refl _))
      · obtain ⟨its, rv, p', hz⟩ := I2.tuple hq
        refine enum_begins_start (begins_tuple a its.toArray) (isTuple_of p') b0 b1 fun h' he ho hsz hk => ?_
        refine wpAny_pyIter_enum he ?_
        have I3 := I2.kept (t' := s2.toks) hk
        refine ⟨_, [s2.heap.objs.size + 1, s2.heap.objs.size], _, _, H2, rfl, I3, turn_fromT k₀ _ _ a, ⟨⟨_, by simpa using he⟩, ⟨_, ho, rfl, rfl⟩, Nat.succ_ne_self _⟩, ?_, q⟩
        intro b hb
        simp only [List.mem_cons, List.not_mem_nil, or_false] at hb
        rcases hb with rfl | rfl
        · exact I2.fpOk (Nat.le_succ _) (I2.hok.fresh (Nat.le_succ _))
        · exact I2.fpOk (Nat.le_refl _) (I2.hok.fresh (Nat.le_refl _))
theorem walk_enumSL {K : W.Frag} {k₀ : Int} {a : Addr} {xs : List V} :
    Walk (ItN k₀ (fun i H => ∃ xs x, SqL K H a xs ∧ xs[i]? = some x) (fun i H => ∃ xs, SqL K H a xs ∧ xs.length = i) fun i H x => ∀ xs, SqL K H a xs → xs[i]? = some x) xs.length (fun H => SqL K H a xs)
      (YPair (fun i => some (.int (k₀ + i))) fun i => xs[i]?) where
  goes := fun i H hi h => ⟨xs, xs[i], h, List.getElem?_eq_getElem hi⟩
  stops := fun H h => ⟨xs, h, rfl⟩
  yields := by
    rintro i H x H' hi h ⟨T, y, rfl, hT, rfl, hy⟩
    exact ⟨T, _, y, rfl, hT, rfl, rfl, hy xs h⟩
theorem walk_enumST {K : W.Frag} {k₀ : Int} {a : Addr} {xs : List V} :
    Walk (ItN k₀ (fun i H => ∃ xs x, SqT K H a xs ∧ xs[i]? = some x) (fun i H => ∃ xs, SqT K H a xs ∧ xs.length = i) fun i H x => ∀ xs, SqT K H a xs → xs[i]? = some x) xs.length (fun H => SqT K H a xs)
      (YPair (fun i => some (.int (k₀ + i))) fun i => xs[i]?) where
  goes := fun i H hi h => ⟨xs, xs[i], h, List.getElem?_eq_getElem hi⟩
  stops := fun H h => ⟨xs, h, rfl⟩
  yields := by
    rintro i H x H' hi h ⟨T, y, rfl, hT, rfl, hy⟩
    exact ⟨T, _, y, rfl, hT, rfl, rfl, hy xs h⟩
end Mf
namespace Mf
open PySem L2
theorem next_val {prog : Program} {w : World} {A : Around} {E : Value → Shared → Prop} {s : Shared} {it d : Addr} {i ep : Nat} {es : Array DictEntry} {Q : Value → Shared → Prop}
    (hi : Heap.IsValIter s.heap it d i es.size ep) (hd : Heap.DictRaw s.heap d es ep) (hlt : i < es.size)
    (h : ∀ h' : Heap, Heap.IsValIter h' it d (i + 1) es.size ep → Heap.SameBut it s.heap h' → Q es[i].val { s with heap := h' }) :
    wpAny (model prog w) A (Builtin.SmallTypes.nextOf (.ref it)) Q E s := by
  unfold Builtin.SmallTypes.nextOf
  refine wpAny_bind (wpAny_callSpecial?_slot hi.typeIs F.slot_dict_valueiterator_next ?_)
  refine wpAny_call_entry F.slot_dict_valueiterator_next hi.typeIs F.entry_dict_valueiterator_next ?_ (F.args_dict_valueiterator_next_1 _)
  unfold Builtin.«dict_valueiterator.__next__»
  have ty := hi.typeIs
  obtain ⟨o, ho, hc, hdat⟩ := hi
  obtain ⟨od, hod, -, hodd⟩ := hd
  refine wpAny_bind (wpAny_of_eq (a := .ref it) rfl ?_)
  refine wpAny_bind ?_
  refine wpAny_bind (wpAny_bind (wpAny_typeNameOfWhole_valiter ty (wpAny_pure ?_)))
  refine wpAny_bind (wpAny_fieldsOf ho hdat ?_)
  have ow : (if Builtin.Dict_items.ownsTuple "dict_valueiterator" = true then 2 else 0) = 0 := by decide +kernel
  rw [ow]
  refine wpAny_ite_false (by rfl) ?_
  refine wpAny_bind (wpAny_of_eq (a := d) rfl ?_)
  refine wpAny_bind (wpAny_dictEntries hod hodd ?_)
  refine wpAny_ite_false (by simp) ?_
  refine wpAny_bind (wpAny_of_eq (a := d) rfl ?_)
  refine wpAny_bind (wpAny_dictEpoch hod hodd ?_)
  refine wpAny_ite_false (by simp) ?_
  refine wpAny_pure ?_
  have e2 : (if ((i : Nat) : Int) < 0 then none else es[((i : Nat) : Int).toNat]?) = some es[i] := by
    rw [if_neg (by omega)]
    show es[i]? = _
    rw [Array.getElem?_eq_getElem hlt]
  dsimp only
  rw [e2]
  dsimp only
  refine wpAny_bind (wpAny_bind (wpAny_typeNameOfWhole_valiter ty (wpAny_pure ?_)))
  refine wpAny_bind (wpAny_isOneOf_valiter ty ?_)
  rw [ow]
  refine wpAny_bind (wpAny_setField ho hdat (by show 1 < 4; decide) ?_)
  rw [if_neg (by decide +kernel)]
  have sb := Heap.SameBut.update s.heap it (Obj.mapFields fun x => x.setIfInBounds (0 + 1) (rawInt ((i : Int) + 1)))
  have hn : Heap.IsValIter (s.heap.update it (Obj.mapFields fun x => x.setIfInBounds (0 + 1) (rawInt ((i : Int) + 1)))) it d (i + 1) es.size ep := by
    have dm := Obj.data_mapFields hdat fun x => x.setIfInBounds (0 + 1) (rawInt ((i : Int) + 1))
    refine ⟨_, Heap.get?_update_self _ ho (Obj.isFreed_of_fields dm), ?_, ?_⟩
    · rw [Obj.cls_mapFields]; exact hc
    · rw [dm]
      simp [rawInt]
  generalize s.heap.update it (Obj.mapFields fun x => x.setIfInBounds (0 + 1) (rawInt ((i : Int) + 1))) = h2 at sb hn ⊢
  have ty2 : Shared.TypeIs { s with heap := h2 } (.ref it) "dict_valueiterator" := hn.typeIs
  refine wpAny_bind (wpAny_holding (wpAny_bind (wpAny_isOneOf_valiter ty2 ?_)))
  refine wpAny_ite_false (by decide +kernel) ?_
  refine wpAny_bind (wpAny_isOneOf_valiter ty2 ?_)
  refine wpAny_ite_true (by decide +kernel) ?_
  refine wpAny_pure ?_
  refine wpAny_pure ⟨_, rfl, ?_⟩
  exact wpAny_pure (h h2 hn sb)
theorem next_val_end {prog : Program} {w : World} {A : Around} {E : Value → Shared → Prop} {s : Shared} {it d : Addr} {ep : Nat} {es : Array DictEntry} {Q : Value → Shared → Prop}
    (hh : A.handled = none) (hi : Heap.IsValIter s.heap it d es.size es.size ep) (hd : Heap.DictRaw s.heap d es ep)
    (h : ∀ (h' : Heap) (e : Addr), Heap.ExtBut it s.heap h' → (∃ o, h'.get? e = some o ∧ o.cls = .type "StopIteration") → E (.ref e) { s with heap := h' }) :
    wpAny (model prog w) A (Builtin.SmallTypes.nextOf (.ref it)) Q E s := by
  unfold Builtin.SmallTypes.nextOf
  refine wpAny_bind (wpAny_callSpecial?_slot hi.typeIs F.slot_dict_valueiterator_next ?_)
  refine wpAny_call_entry F.slot_dict_valueiterator_next hi.typeIs F.entry_dict_valueiterator_next ?_ (F.args_dict_valueiterator_next_1 _)
  unfold Builtin.«dict_valueiterator.__next__»
  have ty := hi.typeIs
  obtain ⟨o, ho, hc, hdat⟩ := hi
  obtain ⟨od, hod, -, hodd⟩ := hd
  refine wpAny_bind (wpAny_of_eq (a := .ref it) rfl ?_)
  refine wpAny_bind ?_
  refine wpAny_bind (wpAny_bind (wpAny_typeNameOfWhole_valiter ty (wpAny_pure ?_)))
  refine wpAny_bind (wpAny_fieldsOf ho hdat ?_)
  have ow : (if Builtin.Dict_items.ownsTuple "dict_valueiterator" = true then 2 else 0) = 0 := by decide +kernel
  rw [ow]
  refine wpAny_ite_false (by rfl) ?_
  refine wpAny_bind (wpAny_of_eq (a := d) rfl ?_)
  refine wpAny_bind (wpAny_dictEntries hod hodd ?_)
  refine wpAny_ite_false (by simp) ?_
  refine wpAny_bind (wpAny_of_eq (a := d) rfl ?_)
  refine wpAny_bind (wpAny_dictEpoch hod hodd ?_)
  refine wpAny_ite_false (by simp) ?_
  refine wpAny_pure ?_
  have e2 : (if ((es.size : Nat) : Int) < 0 then none else es[((es.size : Nat) : Int).toNat]?) = none := by
    rw [if_neg (by omega)]
    show es[es.size]? = _
    exact Array.getElem?_eq_none (Nat.le_refl _)
  dsimp only
  rw [e2]
  dsimp only
  refine wpAny_bind (wpAny_bind (wpAny_typeNameOfWhole_valiter ty (wpAny_pure ?_)))
  rw [ow]
  refine wpAny_bind (wpAny_setField ho hdat (by show 0 < 4; decide) ?_)
  have sb := Heap.SameBut.update s.heap it (Obj.mapFields fun x => x.setIfInBounds 0 Value.none)
  generalize s.heap.update it (Obj.mapFields fun x => x.setIfInBounds 0 Value.none) = h2 at sb ⊢
  unfold newExc newTuple
  refine wpAny_bind (wpAny_bind (wpAny_newObj_type ?_ (by show 0 ≤ sizeLine; decide)))
  refine wpAny_bind (wpAny_of_eq (a := .none) rfl ?_)
  refine wpAny_newObj_type ?_ (sizeOk_excFields _ _ _ _ _ _ _ _)
  refine wpAny_raiseNew_none (show (Around.in1 A).handled = none from hh) ?_
  exact h _ _ ((sb.extBut.push _).push _) ⟨_, Heap.get?_push_size _ rfl, rfl⟩
theorem draws_val {prog : Program} {w : World} {A : Around} (hh : A.handled = none) (it d : Addr) (ne : d ≠ it) (es : Array DictEntry) (ep : Nat) :
    Draws prog w A it [it, d] es.size (fun i v => ∃ e, es[i]? = some e ∧ v = e.val) fun i h => Heap.IsValIter h it d i es.size ep ∧ Heap.DictRaw h d es ep where
  live := fun i h q => let ⟨o, ho, _⟩ := q.1; ⟨o, ho⟩
  frame := fun i h h' q k => ⟨q.1.at fun o z => k it (by simp) o z, let ⟨o, ho, r⟩ := q.2; ⟨o, k d (by simp) o ho, r⟩⟩
  item := fun i s Q E hi q f => next_val q.1 q.2 hi fun h' x sb => f _ h' s.toks ⟨_, Array.getElem?_eq_getElem hi, rfl⟩
    ⟨x, let ⟨o, ho, r⟩ := q.2; ⟨o, (sb.right d ne).trans ho, r⟩⟩ sb
  done := fun s Q E q f => next_val_end hh q.1 q.2 fun h' e a b => f h' e a b
end Mf
namespace Mf
open PySem L2
abbrev ItV (k₀ : Int) (d : Addr) (o : Obj) (kvs : List (Key × V)) : It :=
  ItN k₀ (fun i H => H d = some (.frz o (.dK kvs)) ∧ i < kvs.length) (fun i H => H d = some (.frz o (.dK kvs)) ∧ kvs.length = i) fun i _ x => ∃ k, kvs[i]? = some (k, x)
theorem pairs_val {prog : Program} {w : World} {knd : KeyKind prog w Key} {es : List DictEntry} {vs : List (Key × Value)} (h : Pairs knd es vs) :
    es.length = vs.length ∧ ∀ (i : Nat) (e : DictEntry), es[i]? = some e → ∃ p, vs[i]? = some p ∧ e.val = p.2 := by
  induction h with
  | nil => exact ⟨rfl, fun i e h => by simp at h⟩
  | cons a b r ih =>
    refine ⟨by rw [List.length_cons, List.length_cons, ih.1], fun i e h => ?_⟩
    match i, h with
    | 0, h =>
      cases h
      exact ⟨_, rfl, b⟩
    | i + 1, h => exact ih.2 i e h
theorem kv_back {kvs : List (Key × V)} {vs : List (Key × Value)} (r : KV kvs vs) {i : Nat} {p : Key × Value} (h : vs[i]? = some p) : ∃ x, RelV x p.2 ∧ ∃ k, kvs[i]? = some (k, x) := by
  have l := Paired.length r
  have hi : i < kvs.length := by
    rcases Nat.lt_or_ge i kvs.length with q | q
    · exact q
    · rw [List.getElem?_eq_none (by omega)] at h; cases h
  obtain ⟨u, hu, ru⟩ := kv_get r (k := kvs[i].1) (v := kvs[i].2) (List.getElem?_eq_getElem hi)
  rw [h] at hu
  cases hu
  exact ⟨_, ru, _, List.getElem?_eq_getElem hi⟩
theorem turn_fromV {P : Program} {w : World} {K : W.Frag} {elts : List Expr} {kk : Nat} {tpos : Pos} (k₀ : Int) (e it d : Addr) {o : Obj} {es : Array DictEntry} {ep : Nat} {kvs : List (Key × V)} (hod : o.data = .dict es ep) :
    Turn P w K (.Tuple elts kk tpos) (ItV k₀ d o kvs) [e, it] e
      fun i h => (∃ old, IsEnum h e it (k₀ + i) old) ∧ Heap.IsValIter h it d i kvs.length ep ∧ e ≠ it := by
  refine turn_from k₀ e it ?_ ?_ ?_
  · rintro i h ⟨o, ho, hc, hd⟩
    exact ⟨o, ho, fun v q => by rw [hd] at q; cases q⟩
  · intro i h h' q k
    exact q.at fun o z => k o z
  · rintro X rfl rfl rfl hc i pins s σ H I hf ⟨old, he⟩ hi ne hg
    have hH : H d = some (.frz o (.dK kvs)) := hg.elim (·.1) (·.1)
    obtain ⟨hs, hgd, hx, es', ep', vs, hdt, hsz, kv, hm⟩ := I.frzK hH
    obtain ⟨rfl, rfl⟩ := dict_ep hod hdt
    obtain ⟨o2, es2, g1, g2, g3, g4, g5, g6⟩ := hm
    rw [hgd] at g1
    cases g1
    obtain ⟨q1, _⟩ := dict_ep hdt g3
    subst q1
    have pv := pairs_val g5
    have n1 : d ≠ it := fun q => by
      obtain ⟨o', ho', hc', hd'⟩ := hi
      rw [← q, hgd] at ho'; cases ho'
      rw [hdt] at hd'; cases hd'
    have n2 : d ≠ e := fun q => by
      have he' : s.heap.get? e = _ := he
      rw [← q, hgd] at he'; cases he'
      cases hdt
    rw [← hsz] at hi
    refine ⟨_, _, _, _, draws_val (show (Around.in1 X.A).handled = none from I.ok.hd hc) it d n1 es2 ep', ⟨hi, ⟨_, hgd, hx, hdt⟩⟩, ?_, ?_, ?_, fun h q => by rw [hsz] at q; exact q.1, ?_⟩
    · intro q
      simp only [List.mem_cons, List.not_mem_nil, or_false] at q
      rcases q with q | q
      · exact ne q
      · exact n2 q.symm
    · rintro ⟨_, q⟩; rw [hsz]; exact q
    · rintro ⟨_, q⟩; rw [hsz]; exact q.symm
    · rintro v ⟨en, hen, rfl⟩ _
      obtain ⟨p, hp, ev⟩ := pv.2 i en (by rw [Array.getElem?_toList]; exact hen)
      rw [ev]
      exact kv_back kv hp
theorem begins_values (v d : Addr) (es : Array DictEntry) (ep : Nat) :
    Begins (.ref v) ⟨.type "dict_valueiterator", none, .fields #[.ref d, .int 0 0, .int (es.size : Nat) 0, .int (ep : Nat) 0], #[]⟩ (fun h => Heap.IsValuesView h v d ∧ Heap.DictRaw h d es ep) where
  iter := fun prog w A E s Q hq q => wpAny_pyIter_values_raw hq.1 hq.2 q
  keeps := by
    rintro h h' ⟨⟨o, a, b, c⟩, o2, g1, g2⟩ k
    exact ⟨⟨o, k _ _ a, b, c⟩, o2, k _ _ g1, g2⟩
  free := rfl
def iEnumV (k₀ : Int) (td : TE) : TI := fun σ H R => td σ H fun x H1 => ∃ d o kvs, x = .ref d ∧ H1 d = some (.frz o (.dK kvs)) ∧ R (ItV k₀ d o kvs) H1
theorem pi_enumV {X : Cx} {e : Expr} {td : TE} {p pos cpos apos tpos kp cq : Pos} {cp : Nat} {elts : List Expr} {kk : Nat} {k₀ : Int} (hg : Gl X "enumerate") (hm : X.mg "enumerate" = none) (he : PE X e td)
    (b0 : -2 ^ 63 ≤ k₀) (b1 : k₀ < 2 ^ 63)
    (hbase : attributeBase e "values" X.env (eval e X.env) = eval e X.env := by rfl) (hline : (apos.endLine == cpos.line) = true := by rfl) :
    PI X (.Tuple elts kk tpos) (.Call (.Name "enumerate" p) [.Call (.Attribute e "values" apos) [] [] cpos] [⟨some "start", .Constant (.int k₀) cp cq, kp⟩] pos) (iEnumV k₀ td) := by
  refine ⟨fun pins s σ H R I h => wpAny_Call_Name_kw (ld_blt I hg hm PyProof.Rows.boot_enumerate (callType_kw ?_ rfl rfl rfl rfl))⟩
  refine Calls.spliced_cons ?_
  refine wpAny_Call_method hbase rfl hline F.plainAttrs_dict F.slot_dict_values F.type_dict_values (thn (he.run pins s σ H _ I h) ?_)
  rintro u s1 ⟨x, H1, I1, rx, d, o, kvs, rfl, hd, q⟩
  have ex : u = .ref d := rx
  subst ex
  obtain ⟨hs, hgd, hx, es, ep, vs, hdt, hsz, kv, hm⟩ := I1.frzK hd
  have hl := Paired.length kv
  refine ⟨hm.dictOf.typeIs, hm.dictOf.mapOf.noDict, ?_⟩
  refine method_meetsIn F.slot_dict_values F.entry_dict_values rfl (evalArgs_none ?_)
  refine ⟨rfl, hm.dictOf.typeIs, F.args_dict_values_1 _, _, meets_dict_values (mixKind X.prog X.w) d hs, ⟨vs, hm.dictOf⟩, ?_⟩
  show wpAny (model X.prog X.w) X.A (spliced []) _ _ _
  refine Calls.spliced_nil ?_
  have I2 := I1.kept (t' := s1.toks) fun b ob q => Heap.get?_push_of_some ⟨.type "dict_values", none, .fields #[.ref d], #[]⟩ q
  refine wpAny_evalAll_cons (wpAny_bind (wpAny_Constant_int (wpAny_bind (wpAny_standAt (wpAny_pure (wpAny_evalAll_nil ?_))))))
  have vw : Heap.IsValuesView (s1.heap.push ⟨.type "dict_values", none, .fields #[.ref d], #[]⟩) s1.heap.objs.size d := ⟨_, Heap.get?_push_size _ rfl, rfl, rfl⟩
  refine enum_begins_start (begins_values s1.heap.objs.size d es ep) ⟨vw, ⟨_, Heap.get?_push_of_some _ hgd, hx, hdt⟩⟩ b0 b1 fun h' he ho hsz2 hk => ?_
  refine wpAny_pyIter_enum he ?_
  have I3 := I2.kept (t' := s1.toks + 1) hk
  refine ⟨_, [(s1.heap.push ⟨.type "dict_values", none, .fields #[.ref d], #[]⟩).objs.size + 1, (s1.heap.push ⟨.type "dict_values", none, .fields #[.ref d], #[]⟩).objs.size], _, _, H1, rfl, I3, turn_fromV k₀ _ _ d hdt, ⟨⟨_, by simpa using he⟩, ⟨_, ho, rfl, by rw [← hsz]; rfl⟩, Nat.succ_ne_self _⟩, ?_, q⟩
  intro b hb
  simp only [List.mem_cons, List.not_mem_nil, or_false] at hb
  rcases hb with rfl | rfl
  · exact I2.fpOk (Nat.le_succ _) (I2.hok.fresh (Nat.le_succ _))
  · exact I2.fpOk (Nat.le_refl _) (I2.hok.fresh (Nat.le_refl _))
theorem walk_enumV {k₀ : Int} {d : Addr} {o : Obj} {kvs : List (Key × V)} :
    Walk (ItV k₀ d o kvs) kvs.length (fun H => H d = some (.frz o (.dK kvs))) (fun i H v H' => ∃ T x k, v = .ref T ∧ H T = none ∧ H' = upd H T (.tup [.int (k₀ + i), x]) ∧ kvs[i]? = some (k, x)) where
  goes := fun i H hi h => ⟨h, hi⟩
  stops := fun H h => ⟨h, rfl⟩
  yields := by
    rintro i H x H' hi h ⟨T, y, rfl, hT, rfl, k, hy⟩
    exact ⟨T, y, k, rfl, hT, rfl, hy⟩
end Mf
/-! Any walk; data of steps and procedures compared; lists of a heap that keep their kind. -/
namespace Mf
open PySem L2
theorem it_any {J : It} {n : Nat} {G : Hp → Prop} {Y : Nat → Hp → V → Hp → Prop} (w : Walk J n G Y) {B : (Hp → Prop) → V → Hp → Prop} {Qd : Hp → Prop} {H1 : Hp} (Pv : Nat → Hp → Prop) (h0 : Pv 0 H1) (hG : ∀ i H, i ≤ n → Pv i H → G H)
    (hs : ∀ i x H H', i < n → Pv i H → Y i H x H' → B (Pv (i + 1)) x H') (hd : ∀ H, Pv n H → Qd H) :
    ∃ W : Nat → Nat → Hp → Prop, (∃ m, W 0 m H1) ∧ ∀ i m H, W i m H → (J.stop i H ∧ Qd H) ∨ (J.go i H ∧ ∃ Nx : Hp → Prop, (∀ H', Nx H' → ∃ m', m' < m ∧ W (i + 1) m' H') ∧ ∀ x H', J.yld i H x H' → B Nx x H') := by
  refine ⟨fun i m H => m = n - i ∧ i ≤ n ∧ Pv i H, ⟨n, by simp, Nat.zero_le _, h0⟩, ?_⟩
  rintro i m H ⟨rfl, hi, p⟩
  have q := hG i H hi p
  by_cases hlt : i < n
  · exact .inr ⟨w.goes i H hlt q, Pv (i + 1), fun H' p' => ⟨n - (i + 1), by omega, rfl, hlt, p'⟩, fun x H' y => hs i x H H' hlt p (w.yields i H x H' hlt q y)⟩
  · have e : i = n := by omega
    subst e
    exact .inl ⟨w.stops H q, hd H p⟩
section
variable (K : PySem.W.Frag) {X : Cx}
theorem piL {tg l : Expr} {tl : TE} (hl : PE X l tl) (h : X.K = K := by rfl) : PI X tg l (iList K tl) := h ▸ pi_list hl
theorem piT {tg l : Expr} {tl : TE} (hl : PE X l tl) (h : X.K = K := by rfl) : PI X tg l (iTup K tl) := h ▸ pi_tup hl
end

/-! ### data -/
theorem eqvMap {α : Type} [DecidableEq α] {f : α → PyData} (h : ∀ x y, PyData.eqv (f x) (f y) = decide (x = y)) : ∀ xs ys : List α, PyData.eqvAll (xs.map f) (ys.map f) = decide (xs = ys)
  | [], [] => rfl
  | [], _ :: _ => rfl
  | _ :: _, [] => rfl
  | x :: xs, y :: ys => by
    show (PyData.eqv (f x) (f y) && PyData.eqvAll (xs.map f) (ys.map f)) = _
    rw [h, eqvMap h xs ys]
    by_cases e : x = y <;> simp [e]
/-- data that can be laid, of depth at most k -/
def Sh (k : Nat) (d : PyData) : Prop := d.canLay0 = true ∧ PyData.depth d ≤ k
theorem Sh.up {k m : Nat} {d : PyData} (h : Sh k d) (l : k ≤ m) : Sh m d := ⟨h.1, Nat.le_trans h.2 l⟩
theorem Sh.all {k : Nat} : ∀ {ds : List PyData}, (∀ d ∈ ds, Sh k d) → PyData.canLayAll0 ds = true ∧ PyData.depthAll ds ≤ k
  | [], _ => ⟨rfl, Nat.zero_le _⟩
  | d :: ds, h => by
    obtain ⟨a, b⟩ := Sh.all (ds := ds) fun y hy => h y (List.mem_cons_of_mem _ hy)
    obtain ⟨a', b'⟩ := h d List.mem_cons_self
    refine ⟨?_, ?_⟩
    · show (d.canLay0 && PyData.canLayAll0 ds) = true
      rw [a, a']; rfl
    · show max (PyData.depth d) (PyData.depthAll ds) ≤ k
      omega
theorem Sh.list {k : Nat} {ds : List PyData} (h : ∀ d ∈ ds, Sh k d) : Sh (k + 1) (.list ds) := ⟨(Sh.all h).1, Nat.succ_le_succ (Sh.all h).2⟩
theorem Sh.tuple {k : Nat} {ds : List PyData} (h : ∀ d ∈ ds, Sh k d) : Sh (k + 1) (.tuple ds) := ⟨(Sh.all h).1, Nat.succ_le_succ (Sh.all h).2⟩
theorem Sh.listM {α : Type} {k : Nat} {xs : List α} {f : α → PyData} (h : ∀ x ∈ xs, Sh k (f x)) : Sh (k + 1) (.list (xs.map f)) := .list fun d hd => by obtain ⟨x, hx, rfl⟩ := List.mem_map.mp hd; exact h x hx
theorem Sh.tupleM {α : Type} {k : Nat} {xs : List α} {f : α → PyData} (h : ∀ x ∈ xs, Sh k (f x)) : Sh (k + 1) (.tuple (xs.map f)) := .tuple fun d hd => by obtain ⟨x, hx, rfl⟩ := List.mem_map.mp hd; exact h x hx
theorem Sh.str {z : Str} (h : PyData.strOk z = true) : Sh 0 (.str z) := ⟨h, Nat.le_refl _⟩
theorem Sh.int (i : Int) : Sh 0 (.int i) := ⟨rfl, Nat.le_refl _⟩
theorem Sh.sh {k : Nat} {d : PyData} (h : Sh k d) (l : k ≤ 64 := by decide) : SeqAt.shaped d = true := Bool.and_eq_true_iff.mpr ⟨h.1, decide_eq_true (Nat.le_trans h.2 l)⟩
theorem dpMap {K : PySem.W.Frag} {H : Hp} {α : Type} {g : α → V} {f : α → PyData} : ∀ {xs : List α}, (∀ x ∈ xs, Dp K H (g x) (f x)) → DpAll K H (xs.map g) (xs.map f)
  | [], _ => .nil
  | x :: xs, h => .cons (h x List.mem_cons_self) (dpMap fun y hy => h y (List.mem_cons_of_mem _ hy))
theorem dpPair {K : PySem.W.Frag} {H : Hp} {α β : Type} {R : α → β → Prop} {g : α → V} {f : β → PyData} {as : List α} {bs : List β} (p : Paired R as bs) (h : ∀ a b, R a b → Dp K H (g a) (f b)) : DpAll K H (as.map g) (bs.map f) := by
  induction p with
  | nil => exact .nil
  | cons a _ ih => exact .cons (h _ _ a) ih
/-! ### steps and procedures as data -/
abbrev Step := Str × Str
abbrev Pc := Str × List Step
def stD (s : Step) : PyData := .tuple [.str s.1, .str s.2]
def bdL (ss : List Step) : PyData := .list (ss.map stD)
def bdT (ss : List Step) : PyData := .tuple (ss.map stD)
def pcL (x : Pc) : PyData := .tuple [.str x.1, bdL x.2]
theorem eqv_str (x y : Str) : PyData.eqv (.str x) (.str y) = decide (x = y) := by
  show (x == y) = _
  by_cases e : x = y <;> simp [e]
theorem eqv_st (x y : Step) : PyData.eqv (stD x) (stD y) = decide (x = y) := by
  obtain ⟨a, b⟩ := x
  obtain ⟨c, d⟩ := y
  show (PyData.eqv (.str a) (.str c) && (PyData.eqv (.str b) (.str d) && true)) = _
  rw [eqv_str, eqv_str]
  by_cases e : a = c <;> by_cases f : b = d <;> simp [e, f]
theorem eqv_bdL (x y : List Step) : PyData.eqv (bdL x) (bdL y) = decide (x = y) := eqvMap eqv_st x y
theorem eqv_bdT (x y : List Step) : PyData.eqv (bdT x) (bdT y) = decide (x = y) := eqvMap eqv_st x y
theorem eqv_pcL (x y : Pc) : PyData.eqv (pcL x) (pcL y) = decide (x = y) := by
  obtain ⟨a, b⟩ := x
  obtain ⟨c, d⟩ := y
  show (PyData.eqv (.str a) (.str c) && (PyData.eqv (bdL b) (bdL d) && true)) = _
  rw [eqv_str, eqv_bdL]
  by_cases e : a = c <;> by_cases f : b = d <;> simp [e, f]
def StOk (s : Step) : Prop := PyData.strOk s.1 = true ∧ PyData.strOk s.2 = true
theorem sh_st {s : Step} (h : StOk s) : Sh 1 (stD s) := .tuple fun d hd => by
  simp only [List.mem_cons, List.not_mem_nil, or_false] at hd
  rcases hd with rfl | rfl
  · exact .str h.1
  · exact .str h.2
theorem sh_bdL {ss : List Step} (h : ∀ s ∈ ss, StOk s) : Sh 2 (bdL ss) := .listM fun s hs => sh_st (h s hs)
theorem sh_bdT {ss : List Step} (h : ∀ s ∈ ss, StOk s) : Sh 2 (bdT ss) := .tupleM fun s hs => sh_st (h s hs)
theorem sh_pcL {x : Pc} (h : PyData.strOk x.1 = true) (h2 : ∀ s ∈ x.2, StOk s) : Sh 3 (pcL x) := .tuple fun d hd => by
  simp only [List.mem_cons, List.not_mem_nil, or_false] at hd
  rcases hd with rfl | rfl
  · exact (Sh.str h).up (by decide)
  · exact sh_bdL h2

/-! ### all but lists stays -/
def NoL (o : HO) : Prop := ∀ xs, o ≠ .lst xs
def SameN (H H' : Hp) : Prop := ∀ b o, NoL o → H b = some o → H' b = some o
theorem SameN.refl {H : Hp} : SameN H H := fun _ _ _ h => h
theorem SameN.of {H H' : Hp} (x : Same H H') : SameN H H' := fun b o _ h => x b o h
theorem SameN.trans {H H1 H2 : Hp} (x : SameN H H1) (y : SameN H1 H2) : SameN H H2 := fun b o n h => y b o n (x b o n h)
theorem SameN.put {H H1 : Hp} {p : Addr} {xs : List V} {o : HO} (x : SameN H H1) (h : H1 p = some (.lst xs)) : SameN H (upd H1 p o) := fun b u n e => by
  have q := x b u n e
  rw [upd_ne (fun z => by rw [z, h] at q; exact n xs (Option.some.inj q).symm)]
  exact q
theorem noL_tup {xs : List V} : NoL (.tup xs) := fun _ h => nomatch h
theorem noL_dK {k : List (Key × V)} : NoL (.dK k) := fun _ h => nomatch h
theorem noL_ins {C d : Addr} {f : List (Str × V)} : NoL (.ins C d f) := fun _ h => nomatch h
theorem SameN.tup {K : PySem.W.Frag} {t : Addr} {H H' : Hp} {xs : List V} (x : SameN H H') (h : SqT K H t xs) : SqT K H' t xs := by
  rcases h with (h | ⟨o, h⟩) | h
  · exact .inl (.inl (x _ _ noL_tup h))
  · exact .inl (.inr ⟨o, x _ _ (fun _ h => nomatch h) h⟩)
  · exact .inr h
/-- all but a, and but lists, stays -/
theorem refs_ne {H : Hp} {a x : Addr} {n : Nat} {ts : List Addr} (S : Src H a n) (h : H x = some (.lst (ts.map V.ref))) : x ≠ a := fun e => by
  obtain ⟨g, s, c, q, _⟩ := S
  rw [e, q] at h
  cases ts with
  | nil => simp at h
  | cons t ts => simp at h
theorem strs_ne {H : Hp} {a x : Addr} {n : Nat} {zs : List Str} (S : Src H a n) (h : H x = some (.lst (zs.map V.str))) : x ≠ a := fun e => by
  obtain ⟨g, s, c, q, _⟩ := S
  rw [e, q] at h
  cases zs with
  | nil => simp at h
  | cons t ts => simp at h
theorem noL_ne {H : Hp} {a x : Addr} {n : Nat} {o : HO} (S : Src H a n) (k : NoL o) (h : H x = some o) : x ≠ a := fun e => by
  obtain ⟨g, s, c, q, _⟩ := S
  rw [e, q] at h
  exact k _ (Option.some.inj h).symm
theorem Kp.noL {H H' : Hp} {a : Addr} {n : Nat} (x : Kp a H H') (S : Src H a n) : SameN H H' := fun b o k h => x b o (noL_ne S k h) h
end Mf
/-! tuple(d) of a dict; == of dicts whose values are data. -/
namespace Mf
open PySem PySem.Spec PyProof.Rows L2

section
variable {prog : Program} {w : World} {A : Around} {E : Value → Shared → Prop} {s : Shared} {T : String} {r d : Addr} {n : Nat} {P : Nat → Value → Prop} {OK : Heap → Prop}
theorem collect_src {Q : List Value → Shared → Prop} (K : PySem.W.KdlSrc prog w T r d n P OK) (hh : A.handled = none) (hok : OK s.heap) (hn : n ≤ sizeLine)
    (hQ : ∀ (h' : Heap) (tk : Nat) (acc : Array Value), (∀ b o, s.heap.get? b = some o → h'.get? b = some o) → ItemsOf P acc n → Q acc.toList { s with heap := h', toks := tk }) :
    wpAny (model prog w) A (collect (.ref r)) Q E s := by
  unfold collect
  refine wpAny_bind (wpAny_runValue (codeAny_builtin F.entry_proto_collect ?_))
  rw [Around.under_plainId F.plain_proto_collect _]
  show wpAny _ A.in1 (newList [] >>= fun l => again (.builtin "list.__iadd__" ⟨[l, .ref r], []⟩)) _ _ s
  refine wpAny_bind (wpAny_newObj_type ?_)
  refine wpAny_pure ⟨plainId_quiet F.plain_list_iadd _, codeAny_builtin F.entry_list_iadd ?_⟩
  rw [Around.under_plainId F.plain_list_iadd _]
  show wpAny _ A.in1 (Builtin.List.listExtendWith (.ref s.heap.objs.size) (.ref r) (.ref s.heap.objs.size)) _ _ _
  have hS : (s.heap.push { cls := .type "list", data := .seq ([] : List Value).toArray }).get? s.heap.objs.size = some { cls := .type "list", data := .seq #[] 0 } := Heap.get?_push_size _ rfl
  have hlt := K.there _ hok
  refine wpAny_mono (PySem.W.kdl_extend (A := A) (R := fun rr s' => rr = .ok (.ret (.ref s.heap.objs.size)) ∧ ∃ (h' : Heap) (tk : Nat) (acc : Array Value) (c' : Nat), s' = { s with heap := h', toks := tk } ∧
      (∀ b o, s.heap.get? b = some o → h'.get? b = some o) ∧ h'.get? s.heap.objs.size = some { cls := .type "list", dict := none, data := .seq acc c', slots := #[] } ∧ ItemsOf P acc n)
    (s := { s with heap := s.heap.push { cls := .type "list", data := .seq ([] : List Value).toArray } }) K hh (K.keep _ _ hok fun b _ o e => Heap.get?_push_of_some _ e) _ (Nat.ne_of_gt hlt.1) (Nat.ne_of_gt hlt.2) _ 0 hS
    (fun h' tk acc c' hk e hi => ⟨rfl, h', tk, acc, c', rfl, fun b o q => hk b o (Nat.ne_of_lt (Heap.lt_size q)) (Heap.get?_push_of_some _ q), e, hi⟩) hn) (fun fin s' h => ?_) (fun e s' h => ?_)
  · cases fin with
    | done f =>
      obtain ⟨e, h', tk, acc, c', rfl, hk, hS', hi⟩ := h
      cases e
      show wpAny _ A (load s.heap.objs.size >>= _) _ _ _
      exact wpAny_bind (wpAny_load hS' (wpAny_pure (hQ h' tk acc hk hi)))
    | again c' =>
      refine ⟨h.1, codeAny_mono h.2 fun rr s'' hr' => ?_⟩
      obtain ⟨rfl, h', tk, acc, c', rfl, hk, hS', hi⟩ := hr'
      show wpAny _ A (load s.heap.objs.size >>= _) _ _ _
      exact wpAny_bind (wpAny_load hS' (wpAny_pure (hQ h' tk acc hk hi)))
  · exact absurd h.1 (by simp)

theorem code_tuple_new_dict {Q₁ : Value → Shared → Prop} (K : PySem.W.KdlSrc prog w "dict" r d n P OK) (hh : A.handled = none) (hok : OK s.heap) (hn : n ≤ sizeLine)
    (h : ∀ (h' : Heap) (tk : Nat) (acc : Array Value), (∀ b o, s.heap.get? b = some o → h'.get? b = some o) → ItemsOf P acc n →
      Q₁ (.ref h'.objs.size) { s with heap := h'.push { cls := .type "tuple", data := .seq acc }, toks := tk }) :
    codeAny (model prog w) A (.call (.builtin "tuple.__new__") ⟨[.type "tuple", .ref r], []⟩) (wants Q₁ E) s := by
  refine codeAny_of_tree ?_
  show wpAny _ A.in1 (do checkBuiltinCall "tuple.__new__" ⟨[.type "tuple", .ref r], []⟩; again (.builtin "tuple.__new__" ⟨[.type "tuple", .ref r], []⟩)) _ _ s
  refine wpAny_bind (wpAny_of_eq (F.newCall_tuple_1 _) (wpAny_pure ⟨plainId_quiet F.plain_tuple_new _, codeAny_builtin F.entry_tuple_new ?_⟩))
  rw [Around.under_plainId F.plain_tuple_new _]
  have hsub := sub_tuple_self
  have hinit := init_tuple_lookup
  have hmh := madeHere_tuple
  have hTI : s.TypeIs (.ref r) "dict" := K.type s hok
  have hh1 : A.in1.handled = none := hh
  wp_walk using wpAny_typeOf hTI, collect_src (A := A.in1) K hh1 hok hn
  intro h' tk acc hk hacc
  show wpAny _ _ (Builtin.Tuple.tupleExact acc.toList.toArray >>= fun v => ret v) _ _ _
  unfold Builtin.Tuple.tupleExact
  refine wpAny_bind (wpAny_newObj_type ?_ (by show acc.toList.toArray.size ≤ sizeLine; simp only [Array.toArray_toList]; rw [hacc.1]; exact hn))
  refine wpAny_pure ?_
  have e : acc.toList.toArray = acc := by simp
  rw [e]
  exact h h' tk acc hk hacc

theorem call_tuple_src {Q : Value → Shared → Prop} (K : PySem.W.KdlSrc prog w "dict" r d n P OK) (hh : A.handled = none) (hok : OK s.heap) (hn : n ≤ sizeLine)
    (hQ : ∀ (h' : Heap) (tk : Nat) (acc : Array Value), (∀ b o, s.heap.get? b = some o → h'.get? b = some o) → ItemsOf P acc n →
      Q (.ref h'.objs.size) { s with heap := h'.push { cls := .type "tuple", data := .seq acc }, toks := tk }) :
    wpAny (model prog w) A (call (.type "tuple") [.ref r]) Q E s := by
  refine callType_codes (Q₁ := fun obj s₁ => s₁.TypeIs obj "tuple" ∧ Q obj s₁) F.called_tuple (F.typeCall_tuple_1 _) F.entry_object_init
    (code_tuple_new_dict (A := A.in1) K hh hok hn fun h' tk acc hk hacc => ⟨⟨_, Heap.get?_push_size _ rfl, rfl⟩, hQ h' tk acc hk hacc⟩) fun obj s₁ h₁ => ?_
  exact ⟨h₁.1, F.args_object_init_2 obj _, object_init_meets F.called_tuple.init.lookup F.called_tuple.made (by decide) prog w A.in1 _ s₁ ⟨h₁.1, rfl, h₁.2⟩⟩
end

theorem keyIs_relM {k : Key} {v : Value} (h : keyIs k v = true) : RelV (kV k) v := by
  rcases keyIs_shape h with ⟨i, t, e1, e2⟩ | ⟨x, t, e1, e2⟩
  · subst e1; exact ⟨t, e2⟩
  · subst e1; exact ⟨t, e2⟩
theorem vals_of_atM : ∀ {xs : List V} {us : List Value}, xs.length = us.length → (∀ (j : Nat) (x : V) (u : Value), xs[j]? = some x → us[j]? = some u → RelV x u) → Vals xs us
  | [], [], _, _ => .nil
  | [], _ :: _, h, _ => by simp at h
  | _ :: _, [], h, _ => by simp at h
  | x :: xs, u :: us, h, f => .cons (f 0 x u rfl rfl) (vals_of_atM (by simpa using h) fun j y w h1 h2 => f (j + 1) y w (by simpa using h1) (by simpa using h2))

/-- tuple(d): a new tuple of the keys -/
def rTupD : List V → Hp → VK → Prop := fun xs H Q => ∃ p kvs, xs = [.ref p] ∧ H p = some (.dK kvs) ∧ ∀ q, H q = none → Q (.ref q) (upd H q (.tup (kvs.map fun kv => kV kv.1)))
theorem call_tuple_dK {X : Cx} (hc : X.calm = true) : CallR X (.type "tuple") rTupD := by
  intro pins s σ H xs us Q I r h
  obtain ⟨p, kvs, e, hk, q⟩ := h
  subst e
  obtain ⟨u, eu, rx⟩ := vals1 r
  subst eu
  obtain rfl : u = Value.ref p := rx
  obtain ⟨z, lo, vs, rk, hd⟩ := (show ObjOk X.prog X.w H s.heap p (.dK kvs) from I.hok p _ hk)
  obtain ⟨ep, hat⟩ := hd.dictAt
  have hl : kvs.length = vs.length := Paired.length rk
  refine call_tuple_src (PySem.W.kdl_dict (knd := mixKind X.prog X.w) (kvs := vs) (ep := ep) lo) (I.ok.hd hc) hat (by rw [← hl]; exact z) fun h' tk acc hkeep hacc => ?_
  have I1 : Inv X pins σ H { s with heap := h', toks := tk } := I.kept (t' := tk) hkeep
  refine ⟨.ref h'.objs.size, upd H h'.objs.size (.tup (kvs.map fun kv => kV kv.1)), I1.laid (t' := tk) (fun b o e => Heap.get?_push_of_some _ e) (Nat.le_refl _) (show ObjOk X.prog X.w _ _ _ (.tup (kvs.map fun kv => kV kv.1)) from ⟨?_, acc.toList, ?_, ?_⟩), rfl, q _ (I1.hok.fresh (Nat.le_refl _))⟩
  · rw [List.length_map]; exact z
  · have el : acc.toList.length = acc.size := by simp
    refine vals_of_atM (by rw [List.length_map, el, hacc.1, hl]) fun j x w h1 h2 => ?_
    obtain ⟨k, y, hky, hi⟩ := hacc.2 j w (by rw [← Array.getElem?_toList]; exact h2)
    have e1 : (kvs.map (·.1))[j]? = some k := by
      rw [KV.keys rk, List.getElem?_map, hky] <;> rfl
    have e2 : (kvs.map fun kv => kV kv.1)[j]? = some (kV k) := by
      have e3 : (kvs.map fun kv => kV kv.1) = (kvs.map (·.1)).map kV := by rw [List.map_map] <;> rfl
      rw [e3, List.getElem?_map, e1] <;> rfl
    rw [e2] at h1
    cases h1
    exact keyIs_relM hi
  · rw [Array.toArray_toList]; exact IsTup.new _ _

/-! ### == of dicts whose values are data -/
def DpKV (K : PySem.W.Frag) (H : Hp) (ks : List (Key × V)) (ds : List (Key × PyData)) : Prop := Paired (fun p q => p.1 = q.1 ∧ Dp K H p.2 q.2 ∧ SeqAt.shaped q.2 = true) ks ds
def valD (es : List (Key × PyData)) (k : Key) : Option PyData := (es.find? fun p => decide (p.1 = k)).map (·.2)
def eqvKV (es : List (Key × PyData)) : List (Key × PyData) → Bool
  | [] => true
  | p :: r => (match valD es p.1 with | some e => PyData.eqv p.2 e | none => false) && eqvKV es r
section
variable {X : Cx} {pins : List (Addr × Obj)} {σ : L2.St} {H : Hp} {s : Shared}
theorem DpKV.val {K : PySem.W.Frag} {ls : List (Key × V)} {es : List (Key × PyData)} (h : DpKV K H ls es) (k : Key) : (valV ls k = none ∧ valD es k = none) ∨ ∃ v e, valV ls k = some v ∧ valD es k = some e ∧ Dp K H v e ∧ SeqAt.shaped e = true := by
  unfold valV valD
  induction h with
  | nil => exact .inl ⟨rfl, rfl⟩
  | @cons p q ps qs h t ih =>
    obtain ⟨h1, h2, h3⟩ := h
    by_cases e : p.1 = k
    · rw [List.find?_cons_of_pos (by simpa using e), List.find?_cons_of_pos (by rw [← h1]; simpa using e)]
      exact .inr ⟨_, _, rfl, rfl, h2, h3⟩
    · rw [List.find?_cons_of_neg (by simpa using e), List.find?_cons_of_neg (by rw [← h1]; simpa using e)]
      exact ih
theorem hits_data (I : Inv X pins σ H s) (hu : X.A.in1.units + 64 < cLine) {ls : List (Key × V)} {vb : List (Key × Value)} (rb : KV ls vb) {es : List (Key × PyData)} (hb : DpKV X.K H ls es) :
    ∀ {ks : List (Key × V)} {va : List (Key × Value)} {ds : List (Key × PyData)}, KV ks va → DpKV X.K H ks ds → PySem.W.KeqHits X.A.in1 s vb va (eqvKV es ds) := by
  intro ks va ds ra ha
  unfold KV at ra
  induction ra generalizing ds with
  | nil =>
    cases ha
    exact .nil
  | @cons p q ps qs h t ih =>
    cases ha with
    | @cons _ d _ dr hd tl =>
      obtain ⟨h1, h2⟩ := h
      obtain ⟨g1, g2, g3⟩ := hd
      obtain ⟨key, v⟩ := q
      have h1' : p.1 = key := h1
      have ek : d.1 = key := by rw [← g1]; exact h1
      unfold eqvKV
      rw [ek]
      have rr := rb.val key
      rcases hb.val key with ⟨n1, n2⟩ | ⟨y, e, n1, n2, n3, n4⟩
      · rw [n2]
        rw [n1] at rr
        have nn : valueAt vb key = none := by
          cases hv : valueAt vb key with
          | none => rfl
          | some z => rw [hv] at rr; exact rr.elim
        exact .miss nn
      · rw [n2]
        rw [n1] at rr
        obtain ⟨z, hz, rz⟩ := rr.some_of
        obtain ⟨as, r1⟩ := Dp.reads I d.2 p.2 v g2 h2
        obtain ⟨bs, r2⟩ := Dp.reads I e y z n3 rz
        exact .hit hz (PySem.W.keq_at r1 r2 g3 n4 hu) (ih tl)
def rEqDD (K : PySem.W.Frag) : R2 := fun x y H Q => ∃ a b ks ls ds es, x = .ref a ∧ y = .ref b ∧ H a = some (.dK ks) ∧ H b = some (.dK ls) ∧ DpKV K H ks ds ∧ DpKV K H ls es ∧ Q (.bl (decide (ds.length = es.length) && eqvKV es ds)) H
theorem op_eqDD (hu : X.A.units + 65 < cLine) : OpR X (compareOp .Eq) (rEqDD X.K) := by
  intro pins s σ H x y v u Q I rx ry h
  obtain ⟨a, b, ks, ls, ds, es, rfl, rfl, ea, eb, ha, hb, q⟩ := h
  obtain rfl : v = Value.ref a := rx
  obtain rfl : u = Value.ref b := ry
  obtain ⟨_, ya, va, ra, da⟩ := (show ObjOk X.prog X.w H s.heap a (.dK ks) from I.hok a _ ea)
  obtain ⟨_, yb, vb, rb, db⟩ := (show ObjOk X.prog X.w H s.heap b (.dK ls) from I.hok b _ eb)
  have e1 : va.length = ds.length := by rw [← ra.length]; exact Paired.length ha
  have e2 : vb.length = es.length := by rw [← rb.length]; exact Paired.length hb
  refine PySem.W.keq_eq (knd := mixKind X.prog X.w) (r := eqvKV es ds) ya yb da db (by omega) (fun _ => hits_data I (by show X.A.units + 1 + 64 < cLine; omega) rb hb ra ha) ?_
  refine ⟨.bl _, H, I, rfl, ?_⟩
  rw [show (va.length == vb.length) = decide (ds.length = es.length) from by rw [e1, e2]; rfl]
  exact q
end
end Mf
/-! sorted(xs) of a list of texts of any length. -/
namespace Mf
open PySem PySem.Spec PyProof.Rows L2
section
variable {P : Program} {w : World} {A : Around} {E : Value → Shared → Prop} {s : Shared}
theorem sorted_lst {a : Addr} {its : List Value} {xs : List Str} {Q : Value → Shared → Prop} (hl : s.heap.IsList a its.toArray) (hS : StrsAre its xs) (few : its.length ≤ sizeLine)
    (hQ : ∀ (h' : Heap) (s' : Shared) p (out : Array Value) (c : Nat) (ys : List Str), (∀ b o, s.heap.get? b = some o → h'.get? b = some o) → (∀ b (o : Obj), h'.get? b = some o → s'.heap.get? b = some o) → s'.gens = s.gens → s'.os = s.os → h'.objs.size ≤ p →
      s'.heap.get? p = some (seqObj "list" out c) → StrsAre out.toList ys → sortedS ys = true → ys.Perm xs → Q (.ref p) s') :
    wpAny (model P w) A (call (.builtin "sorted") [.ref a]) Q E s := by
  refine Calls.call_function_entry kind_sorted plain_sorted entry_sorted (args_sorted1 _) ?_
  unfold Builtin.«sorted»
  refine wpAny_bind (m := checkCount "sorted" 1 1 _) (wpAny_pure ?_)
  obtain ⟨o, ho, hc, n, hd⟩ := hl
  refine wpAny_bind (wpAny_collect_seq (hsz := by simpa using few) a (.inl rfl) ho hc hd fun h' hk => ?_)
  have len := (strs_val hS).1
  have el : its.toArray.toList = its := by simp
  rw [el]
  refine wpAny_bind (wpAny_newList ?_ few)
  have hoL : (h'.push (seqObj "list" its.toArray 0)).get? h'.objs.size = some (seqObj "list" its.toArray 0) := Heap.get?_push_size _ rfl
  refine wpAny_bind (wpAny_holding (wpAny_call_entry slot_list_sort ⟨_, hoL, rfl⟩ entry_list_sort (list_sort_treeKAny strKind_oneLt hoL hS.keysOf (fun v₁ v₂ rest e => keyKind_strs (by rw [← e]; exact hS)) few fun st' hp hs => ⟨_, rfl, ?_⟩) (args_list_sort _)))
  obtain ⟨ys, g1', g2, g3⟩ := sorted_out_str hS hp hs
  obtain ⟨c, hc⟩ := sortedHeap_at (vs := its) (out := (arrOf st').map (·.2)) hoL
  refine wpAny_pure ⟨_, rfl, hQ h' _ h'.objs.size _ c ys hk (fun b u q => ?_) rfl rfl (Nat.le_refl _) hc g1' g3 g2⟩
  have lt := Heap.lt_size q
  show (sortedHeap (h'.push (seqObj "list" its.toArray 0)) h'.objs.size its _).get? b = some u
  rw [sortedHeap_old (Nat.ne_of_lt lt) (by rw [size_push']; exact Nat.lt_succ_of_lt lt)]
  exact Heap.get?_push_of_some _ q
end
section
variable {X : Cx}
/-- sorted(xs) of a list of texts -/
def rSortedL (K : PySem.W.Frag) : List V → Hp → VK → Prop := fun vs H Q => ∃ (a : Addr) (xs : List Str), vs = [V.ref a] ∧ SqL K H a (xs.map V.str) ∧
  ∀ (ys : List Str) (p : Addr), ys.Perm xs → sortedS ys = true → H p = none → Q (.ref p) (upd H p (.lst (ys.map V.str)))
theorem cr_sortedL : CallR X (.builtin "sorted") (rSortedL X.K) := by
  intro pins s σ H vs us Q I r h
  obtain ⟨a, xs, rfl, hs, q⟩ := h
  obtain ⟨its, rv, hl, hz⟩ := I.list hs
  rw [Vals.ref1 r]
  have hlen0 := rv.length
  rw [List.length_map] at hlen0
  rw [List.length_map] at hz
  refine sorted_lst hl.isList rv.strs (by rw [← hlen0]; exact hz) fun h' s' p out c ys k0 k g o hp hg hS so pm => ?_
  have I1 := I.kept (t' := s.toks) k0
  have hn : H p = none := I1.hok.fresh hp
  have few : (ys.map V.str).length ≤ sizeLine := by rw [List.length_map, pm.length_eq]; exact hz
  have J : Inv X pins σ (upd H p (.lst (ys.map V.str))) { ({ s with heap := h' } : Shared) with heap := s'.heap, gens := s'.gens, drawn := s'.drawn, toks := s'.toks } :=
    I1.call (ch := []) (Un.laid k hp hn) (I1.hok.laid k hp ⟨few, out.toList, c, vals_of_strs hS, hg⟩) (by rw [g]; exact I.bare) fun _ z => nomatch z
  have e : s' = { s with heap := s'.heap, gens := s'.gens, drawn := s'.drawn, toks := s'.toks } := by
    rcases s' with ⟨_, _, _, _, _⟩
    cases o
    rfl
  rw [e]
  exact ⟨.ref p, _, J, rfl, q ys p pm so hn⟩
theorem k_sortedL (K : PySem.W.Frag) (h : X.K = K := by rfl) : CallR X (.builtin "sorted") (rSortedL K) := h ▸ cr_sortedL
end
end Mf
/-! The text of a program. -/
namespace Mf
open PySem L2
/-- an f-string's reading, under a name -/
def tJoin (ts : List TE) : TE := fun σ H Q => tJs ts Str.empty σ H fun out H1 => Q (.str out) H1
theorem pe_jn {X : Cx} {v1 v2 : Expr} {rest : List Expr} {ts : List TE} {pos : Pos} (h : PJ X (v1 :: v2 :: rest) ts) : PE X (.JoinedStr (v1 :: v2 :: rest) pos) (tJoin ts) := pe_joined h
def stepT (s : Step) : Str := ((((Str.empty ++ (" " : Str)) ++ s.1) ++ (" " : Str)) ++ s.2)
def lineT (n : Str) (ss : List Step) : Str := (n ++ (":" : Str)) ++ Txt.join ("," : Str) (ss.map stepT)
def textT (x : List Pc) : Str := Txt.join ("\n" : Str) (x.map fun y => lineT y.1 y.2)
theorem tl_sp : TL.tl (" " : Str) = [32] := by decide +kernel
theorem tl_co : TL.tl (":" : Str) = [58] := by decide +kernel
theorem tl_cm : TL.tl ("," : Str) = [44] := by decide +kernel
theorem tl_nl : TL.tl ("\n" : Str) = [10] := by decide +kernel
theorem tl_cs : TL.tl (", " : Str) = [44, 32] := by decide +kernel
theorem tl_c2 : TL.tl (": " : Str) = [58, 32] := by decide +kernel
theorem tl_em : TL.tl Str.empty = [] := rfl
theorem tl_step (s : Step) : TL.tl (stepT s) = 32 :: (TL.tl s.1 ++ 32 :: TL.tl s.2) := by
  unfold stepT
  rw [TL.tl_append, TL.tl_append, TL.tl_append, TL.tl_append, tl_sp, tl_em]
  simp
theorem tl_joinT (y : Str) (ps : List Str) : TL.tl (Txt.join y ps) = TL.joinL (TL.tl y) (ps.map TL.tl) := by rw [TL.join_eq, TL.tl_join]
theorem tl_line (n : Str) (ss : List Step) : TL.tl (lineT n ss) = TL.tl n ++ 58 :: TL.joinL [44] ((ss.map stepT).map TL.tl) := by
  unfold lineT
  rw [TL.tl_append, TL.tl_append, tl_co, tl_joinT, tl_cm]
  simp
/-- the blank in front of each piece goes into what stands between them -/
theorem join_blank (ps : List (List Nat)) (ne : ps ≠ []) : TL.joinL [44] (ps.map fun p => 32 :: p) = 32 :: TL.joinL [44, 32] ps := by
  induction ps with
  | nil => exact absurd rfl ne
  | cons p r ih =>
    cases r with
    | nil => rfl
    | cons q r =>
      show (32 :: p) ++ ([44] ++ TL.joinL [44] ((q :: r).map fun p => 32 :: p)) = 32 :: (p ++ ([44, 32] ++ TL.joinL [44, 32] (q :: r)))
      rw [ih (by simp)]
      simp
/-- the law's own writing of a line -/
def lawLine (n : Str) (ss : List Step) : Str := if ss.length = 0 then n ++ (":" : Str) else (n ++ (": " : Str)) ++ Txt.join (", " : Str) (ss.map fun s => (s.1 ++ (" " : Str)) ++ s.2)
theorem lawLine_eq (n : Str) (ss : List Step) : lawLine n ss = lineT n ss := by
  refine TL.ext_tl ?_
  rw [tl_line]
  unfold lawLine
  by_cases e : ss.length = 0
  · rw [if_pos e]
    obtain rfl := List.eq_nil_of_length_eq_zero e
    rw [TL.tl_append, tl_co]; rfl
  · rw [if_neg e, TL.tl_append, TL.tl_append, tl_c2, tl_joinT, tl_cs]
    have e1 : (ss.map stepT).map TL.tl = ((ss.map fun s => (s.1 ++ (" " : Str)) ++ s.2).map TL.tl).map fun p => 32 :: p := by
      rw [List.map_map, List.map_map, List.map_map]
      refine List.map_congr_left fun s _ => ?_
      show TL.tl (stepT s) = 32 :: TL.tl ((s.1 ++ (" " : Str)) ++ s.2)
      rw [tl_step, TL.tl_append, TL.tl_append, tl_sp]
      simp
    rw [e1, join_blank _ (fun h => e (by rw [← List.length_map (f := fun s : Step => (s.1 ++ (" " : Str)) ++ s.2), ← List.length_map (f := TL.tl), h]; rfl))]
    simp
/-- no sign of a name or of a kind stands between the parts -/
def Plain (z : Str) : Prop := ∀ c ∈ TL.tl z, 97 ≤ c ∧ c ≤ 122
theorem IsName.plain {z : Str} (h : IsName z) : Plain z := h.2.2
theorem Plain.not {z : Str} (h : Plain z) {c : Nat} (l : c < 97) : ¬ c ∈ TL.tl z := fun m => by have := (h c m).1; omega
theorem step_no {s : Step} (h1 : Plain s.1) (h2 : Plain s.2) {c : Nat} (l : c < 97) (n : c ≠ 32) : ¬ c ∈ TL.tl (stepT s) := fun m => by
  rw [tl_step] at m
  simp only [List.mem_cons, List.mem_append] at m
  rcases m with m | m | m | m
  · exact n m
  · exact h1.not l m
  · exact n m
  · exact h2.not l m
theorem joinL_no {S : List Nat} {c : Nat} (hS : ¬ c ∈ S) : ∀ {ps : List (List Nat)}, (∀ p ∈ ps, ¬ c ∈ p) → ¬ c ∈ TL.joinL S ps
  | [], _ => by show ¬ c ∈ []; simp
  | [p], h => h p List.mem_cons_self
  | p :: q :: r, h => by
    show ¬ c ∈ p ++ (S ++ TL.joinL S (q :: r))
    rw [List.mem_append, List.mem_append]
    rintro (m | m | m)
    · exact h p List.mem_cons_self m
    · exact hS m
    · exact joinL_no hS (fun x hx => h x (List.mem_cons_of_mem _ hx)) m
theorem line_no {n : Str} {ss : List Step} (hn : Plain n) (h : ∀ s ∈ ss, Plain s.1 ∧ Plain s.2) : ¬ 10 ∈ TL.tl (lineT n ss) := fun m => by
  rw [tl_line, List.mem_append, List.mem_cons] at m
  rcases m with m | m | m
  · exact hn.not (by decide) m
  · exact absurd m (by decide)
  · refine joinL_no (S := [44]) (by decide) (fun p hp => ?_) m
    obtain ⟨z, hz, rfl⟩ := List.mem_map.mp hp
    obtain ⟨s, hs, rfl⟩ := List.mem_map.mp hz
    exact step_no (h s hs).1 (h s hs).2 (by decide) (by decide)
theorem split_text {x : List Pc} (ne : x ≠ []) (h : ∀ y ∈ x, Plain y.1 ∧ ∀ s ∈ y.2, Plain s.1 ∧ Plain s.2) : Txt.split (textT x) ("\n" : Str) = x.map fun y => lineT y.1 y.2 := by
  unfold textT
  refine TL.split_join tl_nl (by decide +kernel) (fun e => ne (List.map_eq_nil_iff.mp e)) fun p hp => ?_
  obtain ⟨y, hy, rfl⟩ := List.mem_map.mp hp
  exact line_no (h y hy).1 (h y hy).2
theorem part_line {n : Str} {ss : List Step} (hn : Plain n) : Txt.partition (lineT n ss) (":" : Str) = (n, (":" : Str), Txt.join ("," : Str) (ss.map stepT)) :=
  TL.partition_app tl_co (hn.not (by decide))
theorem split_steps {ss : List Step} (ne : ss ≠ []) (h : ∀ s ∈ ss, Plain s.1 ∧ Plain s.2) : Txt.split (Txt.join ("," : Str) (ss.map stepT)) ("," : Str) = ss.map stepT := by
  refine TL.split_join tl_cm (by decide +kernel) (fun e => ne (List.map_eq_nil_iff.mp e)) fun p hp => ?_
  obtain ⟨s, hs, rfl⟩ := List.mem_map.mp hp
  exact step_no (h s hs).1 (h s hs).2 (by decide) (by decide)
theorem steps_empty {ss : List Step} : Txt.join ("," : Str) (ss.map stepT) = Str.empty ↔ ss = [] := by
  constructor
  · intro e
    cases ss with
    | nil => rfl
    | cons s r =>
      have q := congrArg TL.tl e
      rw [tl_joinT, List.map_cons, List.map_cons, tl_step] at q
      cases r with
      | nil => cases q
      | cons t r => cases q
  · rintro rfl
    refine TL.ext_tl ?_
    rw [tl_joinT]; rfl
theorem cut_one {z : Str} {c : Nat} {r : List Nat} (h : TL.tl z = c :: r) : TL.tl (cutS z (some 1) none) = r := by
  have hl : z.length = r.length + 1 := by rw [len_tl, show z.cps.toList = TL.tl z from rfl, h]; rfl
  have h1 : HT.sIx z.length 0 (some 1) = 1 := by unfold HT.sIx; simp; omega
  have h2 : HT.sIx z.length z.length none = z.length := rfl
  unfold cutS
  rw [h1, h2]
  show ((TL.tl z).drop 1).take (z.length - 1) = r
  rw [h, hl]
  simp
theorem cut_step (s : Step) : cutS (stepT s) (some 1) none = (s.1 ++ (" " : Str)) ++ s.2 := by
  refine TL.ext_tl ?_
  rw [TL.tl_append, TL.tl_append, tl_sp, cut_one (tl_step s)]
  simp
/-! ### lengths -/
theorem joinL_len {S : List Nat} {k : Nat} : ∀ {ps : List (List Nat)}, (∀ p ∈ ps, p.length ≤ k) → (TL.joinL S ps).length ≤ ps.length * (k + S.length)
  | [], _ => Nat.zero_le _
  | [p], h => by
    show p.length ≤ 1 * (k + S.length)
    have := h p List.mem_cons_self
    omega
  | p :: q :: r, h => by
    show (p ++ (S ++ TL.joinL S (q :: r))).length ≤ _
    have a := joinL_len (S := S) (ps := q :: r) fun x hx => h x (List.mem_cons_of_mem _ hx)
    have b := h p List.mem_cons_self
    rw [List.length_append, List.length_append, List.length_cons, Nat.add_mul]
    omega
def Short (s : Step) : Prop := s.1.length ≤ 8 ∧ s.2.length ≤ 8
theorem len_of (z : Str) : z.length = (TL.tl z).length := len_tl z
theorem app_len (x y : Str) : (x ++ y).length = x.length + y.length := by rw [len_of, len_of x, len_of y, TL.tl_append, List.length_append]
theorem sp_len : (" " : Str).length = 1 := by decide +kernel
theorem co_len : (":" : Str).length = 1 := by decide +kernel
theorem em_len : Str.empty.length = 0 := rfl
theorem step_len {s : Step} (h : Short s) : (stepT s).length ≤ 18 := by
  have a := h.1; have b := h.2
  rw [len_of] at a b ⊢
  rw [tl_step, List.length_cons, List.length_append, List.length_cons]
  omega
theorem line_len {n : Str} {ss : List Step} (hn : n.length ≤ 8) (l : ss.length ≤ 12) (h : ∀ s ∈ ss, Short s) : (lineT n ss).length ≤ 240 := by
  rw [len_of] at hn ⊢
  rw [tl_line, List.length_append, List.length_cons]
  have a := joinL_len (S := [44]) (k := 18) (ps := (ss.map stepT).map TL.tl) fun p hp => by
    obtain ⟨z, hz, rfl⟩ := List.mem_map.mp hp
    obtain ⟨s, hs, rfl⟩ := List.mem_map.mp hz
    have := step_len (h s hs)
    rw [len_of] at this
    exact this
  rw [List.length_map, List.length_map, List.length_singleton] at a
  omega
theorem text_len {x : List Pc} (l : x.length ≤ 16) (h : ∀ y ∈ x, y.1.length ≤ 8 ∧ y.2.length ≤ 12 ∧ ∀ s ∈ y.2, Short s) : (textT x).length ≤ 4000 := by
  rw [len_of]
  unfold textT
  rw [tl_joinT, tl_nl]
  have a := joinL_len (S := [10]) (k := 240) (ps := (x.map fun y => lineT y.1 y.2).map TL.tl) fun p hp => by
    obtain ⟨z, hz, rfl⟩ := List.mem_map.mp hp
    obtain ⟨y, hy, rfl⟩ := List.mem_map.mp hz
    have := line_len (h y hy).1 (h y hy).2.1 (h y hy).2.2
    rw [len_of] at this
    exact this
  rw [List.length_map, List.length_map, List.length_singleton] at a
  omega
theorem sum_le {k : Nat} : ∀ {ys : List Str}, (∀ y ∈ ys, y.length ≤ k) → (ys.map (·.length)).sum ≤ ys.length * k
  | [], _ => Nat.zero_le _
  | y :: r, h => by
    rw [List.map_cons, List.sum_cons, List.length_cons, Nat.add_mul]
    have a := sum_le fun x hx => h x (List.mem_cons_of_mem _ hx)
    have b := h y List.mem_cons_self
    omega
theorem part_step {s : Step} (h : Plain s.1) : Txt.partition ((s.1 ++ (" " : Str)) ++ s.2) (" " : Str) = (s.1, (" " : Str), s.2) := TL.partition_app tl_sp (h.not (by decide))
end Mf
/-! A walk over a list or a tuple; a def that is called with fewer arguments than it has; what is reached along steps. -/
namespace Mf
open PySem PySem.Spec PyProof.Rows L2
theorem same_SqL {K : PySem.W.Frag} {t : Addr} {H H' : Hp} {xs : List V} (x : Same H H') (h : SqL K H t xs) : SqL K H' t xs := by
  rcases h with (h | ⟨o, h⟩) | h
  · exact .inl (.inl (x _ _ h))
  · exact .inl (.inr ⟨o, x _ _ h⟩)
  · exact .inr h
theorem same_Seq {K : PySem.W.Frag} {t : Addr} {H H' : Hp} {xs : List V} (x : Same H H') (h : SqL K H t xs ∨ SqT K H t xs) : SqL K H' t xs ∨ SqT K H' t xs := h.imp (same_SqL x) x.tup
section
variable {X : Cx} {tg : Expr}
/-- a walk over a list or a tuple -/
def iSeq (K : PySem.W.Frag) (tl : TE) : TI := fun σ H R => tl σ H fun x H1 => ∃ a xs, x = .ref a ∧ (SqL K H1 a xs ∨ SqT K H1 a xs) ∧ ∀ (J : It) (G : Hp → Prop), Walk J xs.length G (YAt xs) → (∀ H', Same H1 H' → G H') → R J H1
theorem pi_seq {l : Expr} {tl : TE} (hl : PE X l tl) : PI X tg l (iSeq X.K tl) := by
  refine ⟨fun pins s σ H R I h => ?_⟩
  refine thn (hl.run pins s σ H _ I h) fun v s1 ⟨x, H1, I1, r1, q1⟩ => ?_
  obtain ⟨a, xs, e, hq | hq, q⟩ := q1
  · subst e
    cases r1
    obtain ⟨its, rv, p, hz⟩ := I1.list hq
    refine wpAny_pyIter_list p.isList ?_
    refine ⟨s1.heap.objs.size, [s1.heap.objs.size], _, _, H1, rfl, I1.kept (t' := s1.toks) fun b o e => Heap.get?_push_of_some _ e, turn_list a _, ⟨_, Heap.get?_push_size _ rfl, rfl, rfl⟩, fun b hb => ?_, q _ _ walk_list fun H' s => same_SqL s hq⟩
    have e : b = s1.heap.objs.size := by simpa using hb
    subst e
    exact I1.fpOk (Nat.le_refl _) (I1.hok.fresh (Nat.le_refl _))
  · subst e
    cases r1
    obtain ⟨its, rv, p, hz⟩ := I1.tuple hq
    refine wpAny_pyIter_tuple (show s1.heap.IsTuple a its.toArray from p) ?_
    refine ⟨s1.heap.objs.size, [s1.heap.objs.size], _, _, H1, rfl, I1.kept (t' := s1.toks) fun b o e => Heap.get?_push_of_some _ e, turn_tuple a _, ⟨_, Heap.get?_push_size _ rfl, rfl, rfl⟩, fun b hb => ?_, q _ _ walk_tup fun H' s => s.tup hq⟩
    have e : b = s1.heap.objs.size := by simpa using hb
    subst e
    exact I1.fpOk (Nat.le_refl _) (I1.hok.fresh (Nat.le_refl _))
theorem piS (K : PySem.W.Frag) {l : Expr} {tl : TE} (hl : PE X l tl) (h : X.K = K := by rfl) : PI X tg l (iSeq K tl) := h ▸ pi_seq hl
end
/-! ### name = {..} on one line, the name a local -/
section
variable {X : Cx}
theorem ps_setDc {i : Nat} {y : Str} {py : Pos} {kx vx tg iter : Expr} {ifs : List Expr} {scope : Scope} {own : List (Str × Nat)} {pos spos : Pos} {wi : TI} {g : TG} {tt : TT} {tk tv : TE} (hc : X.calm = true) (hN : X.N.Nodup) (hy : X.N[i]? = some y) (hyl : X.env.scope.names.lookup y = some .local)
    (hsw : swapsWith (.DictComp kx vx [⟨tg, iter, ifs, 0⟩] scope pos) (some (.Name y py)) spos.line X.env = pure true) (hi : PI X tg iter wi) (ok : BlkOk X.N X.env.scope scope own)
    (hg : ∀ (s : Shared) (H : Hp) (C : Addr) (cl : List (Str × Addr)) (fp : List Addr), PG (X.blk s H scope (compEnvC scope cl C X.env) fp) tg g) (ht : ∀ (s : Shared) (H : Hp) (C : Addr) (cl : List (Str × Addr)) (fp : List Addr), PTs (X.blk s H scope (compEnvC scope cl C X.env) fp) ifs tt)
    (hk : ∀ (s : Shared) (H : Hp) (C : Addr) (cl : List (Str × Addr)) (fp : List Addr), PE (X.blk s H scope (compEnvC scope cl C X.env) fp) kx tk)
    (he : ∀ (s : Shared) (H : Hp) (C : Addr) (cl : List (Str × Addr)) (fp : List Addr), PE (X.blk s H scope (compEnvC scope cl C X.env) fp) vx tv) (hs : ∀ x, foldedSetIterable iter X.env x = pure x := by intro _; rfl) :
    PS X (.Assign [.Name y py] (.DictComp kx vx [⟨tg, iter, ifs, 0⟩] scope pos) spos) (tAsg (tDc wi g tt tk tv (own.map (·.2))) (gName i)) := by
  refine ⟨fun pins s σ H D I h => ?_⟩
  rw [exec_Assign_Name_used _ _ _ _ hsw]
  refine wpAny_bind (wpAny_standAt (wpAny_bind ?_))
  show wpAny _ X.A (do let _ ← comprehension (.DictComp kx vx [⟨tg, iter, ifs, 0⟩] scope pos) scope X.env (firstIterPos [⟨tg, iter, ifs, 0⟩] pos) newDict false (eval iter X.env) (some (assign (.Name y py) X.env))) _ _ s
  have h : tDc wi g tt tk tv (own.map (·.2)) σ H (fun x H1 => gName i x σ H1 D.nx) := h
  refine wpAny_bind (thn (dc_core (Qf := fun _ s' => SP X pins D .next s') hc hN I hi ok hg ht hk he hs h fun L C s' m H' I' q hn f => ?_) fun _ s' hq => wpAny_pure (wpAny_pure hq))
  show wpAny _ _ (assign (.Name y py) X.env (.ref L)) _ _ _
  refine wpAny_assign_Name (store_ok2 (v := V.ref L) I' hN hy (.inl hyl) rfl (fun s2 I2 ⟨a, sb, ha⟩ => ?_) (.inr hyl))
  obtain ⟨f0, f1, f2, f3, f4, f5⟩ := f
  have haC : C ≠ a := by
    rcases ha with z | z
    · rw [z]; exact f1
    · exact fun e => f4 y a z e.symm
  refine ⟨m, hn.sameBut sb haC, fun h3 sb3 => ?_⟩
  exact ⟨_, H', I2.turned (t' := s2.toks) (fun b o hb e => (sb3.2 b hb).trans e) f0 f1 f3 f4 f5, q⟩
theorem sw_trueD {kx vx : Expr} {gs : List Comprehension} {scope : Scope} {pos py : Pos} {y : Str} {l : Nat} {env : Env} (hk : env.scope.kind = .function) (hy : env.scope.names.lookup y = some .local) (hl : (py.line == pos.line) = true)
    (ha : (scope.names.any fun (n, k) => n == y && (k == .local || k == .cell)) = false) : swapsWith (.DictComp kx vx gs scope pos) (some (.Name y py)) l env = pure true := by
  have ky : env.kindOf y = some .local := hy
  have hb : env.blockKind = .function := by unfold Env.blockKind; rw [hk]; rfl
  unfold swapsWith
  simp only [hb, ky, ha, Expr.pos, hl]
  rfl
end
/-- a def with default values, in which nothing is raised -/
theorem funD_ok {P : Program} {w : World} {K : PySem.W.Frag} {mg : Str → Option Value} {base : Heap} {x qual : Str} {params : Arguments} {body : List Stmt} {scope : Scope} {dvs : List V} {kws : List (Str × V)} {f : Addr} {fd : FuncData} {N ps : List Str} {k : Nat} {sp : Sp} (F : FunD K x qual params body scope dvs kws f fd) (S : FnScope N ps scope) (len : ∀ vs H Q E, sp vs H Q E → vs.length = ps.length)
    (hbody : ∀ (cdv : Value) (A : Around) (outer : List Env) (s : Shared) (H : Hp) (vs : List V) (Q : VK) (E : XK), Room k (A.deeper (envOfC qual scope s.heap.objs.size f cdv)) → sp vs H Q E →
      ∃ t, PSs (cxOf CX0 P w K mg base N qual scope f cdv A outer s H E).nox body t ∧ t { nx := fun _ H' => Q .non H', rt := Q } (start N vs) H) : FnOk P w K mg base CX0 (k + 1) f fd ps sp :=
  F.ok S len fun cdv A outer s H vs Q E hr hsp =>
    let ⟨t, h, q⟩ := hbody cdv A outer s H vs Q E hr hsp
    ⟨t, h.nox, q⟩
/-! ### a list of truths -/
theorem lc_bools {J : It} {G : Hp → Prop} {xs : List V} {fs : List Bool} (w : Walk J xs.length G (YAt xs)) {g : TG} {tt : TT} {te : TE} {vs : List Nat} {σ : L2.St} {H0 : Hp} {D : Addr} {Qd : Hp → Prop} (hl : fs.length = xs.length) (few : fs.length ≤ 4000) (hD : H0 D = none) (hG : ∀ H, Same H0 H → G H)
    (hs : ∀ (i : Nat) (x : V) (b : Bool) (H' : Hp) (Qe : VK) (Pf : Hp → Prop), xs[i]? = some x → fs[i]? = some b → Same H0 H' → (∀ H3, Same H' H3 → Qe (.bl b) H3) → g x (wipe σ vs) H' fun σ2 H2 => wipe σ2 vs = wipe σ vs ∧ tt σ2 H2 fun c H3 => if c = true then te σ2 H3 Qe else Pf H3)
    (hd : ∀ H, Same H0 H → H D = some (.lst (fs.map V.bl)) → Qd H) :
    ∃ W : Nat → Nat → Hp → Prop, (∃ m, W 0 m (upd H0 D (.lst []))) ∧ ∀ i m H, W i m H →
      (J.stop i H ∧ Qd H) ∨ (J.go i H ∧ ∃ Nx : Hp → Prop, (∀ H', Nx H' → ∃ m', m' < m ∧ W (i + 1) m' H') ∧ ∀ x H', J.yld i H x H' → g x (wipe σ vs) H' fun σ2 H2 => wipe σ2 vs = wipe σ vs ∧ tt σ2 H2 fun b H3 =>
        if b = true then te σ2 H3 fun y H4 => ∃ acc, H4 D = some (.lst acc) ∧ acc.length < sizeLine ∧ Nx (upd H4 D (.lst (acc ++ [y]))) else Nx H3) := by
  refine lc_it w (fun i H' => Same H0 H' ∧ H' D = some (.lst ((fs.take i).map V.bl))) ⟨Same.new hD, upd_same⟩ (fun i H' _ q => hG _ q.1) ?_ fun H' ⟨s1, h1⟩ => hd H' s1 (by rw [← hl, List.take_length] at h1; exact h1)
  rintro i x _ H1 hi ⟨s1, h1⟩ ⟨rfl, hx⟩
  have hb := List.getElem?_eq_getElem (show i < fs.length by omega)
  refine hs i x fs[i] H1 _ _ hx hb s1 fun H3 s3 => ⟨_, s3 _ _ h1, ?_, (s1.trans s3).mut hD, ?_⟩
  · rw [List.length_map]
    exact Nat.lt_of_le_of_lt (List.length_take_le _ _) (Nat.lt_of_lt_of_le (by omega : i < 4000) (by decide))
  · rw [upd_same, List.take_add_one, hb, List.map_append]; rfl
/-- all of them true -/
theorem lc_yes {J : It} {G : Hp → Prop} {xs : List V} (w : Walk J xs.length G (YAt xs)) {g : TG} {tt : TT} {te : TE} {vs : List Nat} {σ : L2.St} {H0 : Hp} {D : Addr} {Qd : Hp → Prop} (few : xs.length ≤ 4000) (hD : H0 D = none) (hG : ∀ H, Same H0 H → G H)
    (hs : ∀ (i : Nat) (x : V) (H' : Hp) (Qe : VK) (Pf : Hp → Prop), xs[i]? = some x → Same H0 H' → (∀ H3, Same H' H3 → Qe (.bl true) H3) → g x (wipe σ vs) H' fun σ2 H2 => wipe σ2 vs = wipe σ vs ∧ tt σ2 H2 fun c H3 => if c = true then te σ2 H3 Qe else Pf H3)
    (hd : ∀ (H : Hp) (fs : List Bool), Same H0 H → H D = some (.lst (fs.map V.bl)) → fs.all id = true → Qd H) :
    ∃ W : Nat → Nat → Hp → Prop, (∃ m, W 0 m (upd H0 D (.lst []))) ∧ ∀ i m H, W i m H →
      (J.stop i H ∧ Qd H) ∨ (J.go i H ∧ ∃ Nx : Hp → Prop, (∀ H', Nx H' → ∃ m', m' < m ∧ W (i + 1) m' H') ∧ ∀ x H', J.yld i H x H' → g x (wipe σ vs) H' fun σ2 H2 => wipe σ2 vs = wipe σ vs ∧ tt σ2 H2 fun b H3 =>
        if b = true then te σ2 H3 fun y H4 => ∃ acc, H4 D = some (.lst acc) ∧ acc.length < sizeLine ∧ Nx (upd H4 D (.lst (acc ++ [y]))) else Nx H3) := by
  refine lc_bools (fs := List.replicate xs.length true) w (by simp) (by simpa using few) hD hG (fun i x b H' Qe Pf hx hb s1 k => ?_) fun H s1 h1 => hd H _ s1 h1 (by simp)
  have e : b = true := by
    have := List.mem_of_getElem? hb
    exact (List.mem_replicate.mp this).2
  subst e
  exact hs i x H' Qe Pf hx s1 k
/-! ### a def called with its last parameters left to their defaults -/
structure CalD (P : Program) (w : World) (K : PySem.W.Frag) (mg : Str → Option Value) (base : Heap) (CX : CXT) (k : Nat) (x : Str) (ps : List Str) (sp : Sp) (dvs : List V) : Prop where
  ex : ∃ (f : Addr) (fd : FuncData) (ds : List Value), FnOk P w K mg base CX k f fd ps sp ∧ mg x = some (.ref f) ∧ PySem.W.keepIn K (.ref f) = true ∧ Binds K fd ps ds ∧ Vals dvs ds
theorem pe_cald {X : Cx} {CX : CXT} {k : Nat} {x : Str} {ps : List Str} {sp : Sp} {dvs : List V} {E : XK} {e : Expr} {es : List Expr} {t : TA} {p pos : Pos} (c : CalD X.prog X.w X.K X.mg X.base CX k x ps sp dvs) (hr : Room k X.A) (hx : Passes CX X E) (ha : PA X (e :: es) t) (hg : Gl X x := by rfl)
    (hdb : (x == ("__debug__" : Str)) = false := by decide) (he : starEach (e :: es) X.env = (false, eval e X.env) :: starEach es X.env := by rfl) (hpl : (backTo pos (starEach es X.env)).any (·.1) = false := by rfl) :
    PE X (.Call (.Name x p) (e :: es) [] pos) (tCall sp dvs E t) := by
  obtain ⟨f, fd, ds, F, m, kp, b, v⟩ := c.ex
  exact pe_call F hr hg m kp b v hx ha hdb he hpl

/-- x in t, t a tuple of data -/
def rInDT (K : PySem.W.Frag) : R2 := fun x y H Q => ∃ d ds, Dp K H x d ∧ Dp K H y (.tuple ds) ∧ SeqAt.shaped d = true ∧ SeqAt.shaped (.tuple ds) = true ∧ Q (.bl (ds.any fun z => PyData.eqv z d)) H
theorem op_inDT {X : Cx} (hu : X.A.units + 65 < cLine) : OpR X (compareOp .In) (rInDT X.K) := by
  intro pins s σ H x y v u Q I rx ry h
  obtain ⟨d, ds, hd, he, sd, se, q⟩ := h
  obtain ⟨as, r1⟩ := Dp.reads I d x v hd rx
  obtain ⟨bs, r2⟩ := Dp.reads I (.tuple ds) y u he ry
  exact SeqAt.in_tuple_reads r2 r1 (SeqAt.canLay_of_shaped se) (SeqAt.canLay_of_shaped sd) (room_in_shaped sd hu) ⟨.bl _, H, I, rfl, q⟩
theorem inDT {X : Cx} (K : PySem.W.Frag) {k : Nat} (hr : Room (k + 1) X.A) (h : X.K = K := by rfl) : OpR X (compareOp .In) (rInDT K) := h ▸ op_inDT (Room.in1 hr).units
/-- a def with keyword-only parameters, called with keywords ks -/
structure CalK (P : Program) (w : World) (K : PySem.W.Frag) (mg : Str → Option Value) (base : Heap) (CX : CXT) (k : Nat) (x : Str) (ps : List Str) (sp : Sp) (n : Nat) (ks : List Str) (gV : List V → List V → List V) : Prop where
  ex : ∃ (f : Addr) (fd : FuncData) (g : List Value → List Value → List Value), FnOk P w K mg base CX k f fd ps sp ∧ mg x = some (.ref f) ∧ PySem.W.keepIn K (.ref f) = true ∧ KBn K fd ps n ks g gV
theorem pe_calk {X : Cx} {CX : CXT} {k n : Nat} {x : Str} {ps ks : List Str} {sp : Sp} {gV : List V → List V → List V} {E : XK} {e : Expr} {es : List Expr} {kws : List Keyword} {t tk : TA} {p pos : Pos} (c : CalK X.prog X.w X.K X.mg X.base CX k x ps sp n ks gV) (hr : Room k X.A) (hx : Passes CX X E) (ha : PA X (e :: es) t) (hkw : PK X kws tk) (hg : Gl X x := by rfl)
    (hall : (backToKw pos (keywordEach kws X.env)).all (·.1.isSome) = true := by rfl) (hks : (backToKw pos (keywordEach kws X.env)).filterMap (·.1) = ks := by rfl)
    (hdb : (x == ("__debug__" : Str)) = false := by decide) (he : starEach (e :: es) X.env = (false, eval e X.env) :: starEach es X.env := by rfl)
    (hpl : ((backTo pos (starEach (e :: es) X.env)).any (·.1) || (backToKw pos (keywordEach kws X.env)).any (·.1.isNone)) = false := by rfl) :
    PE X (.Call (.Name x p) (e :: es) kws pos) (tCallN n ks.length sp gV E t tk) := by
  obtain ⟨f, fd, g, F, m, kp, b⟩ := c.ex
  exact pe_callN F hr hg m kp b hx ha hkw hall hks hdb he hpl
/-- C(..) of a class that stands in a local name -/
theorem pe_mkl {X : Cx} {CX : CXT} {k : Nat} {x y : Str} {C : Addr} {ps : List Str} {sp : Sp} {dvs : List V} {E : XK} {e : Expr} {es : List Expr} {t : TA} {p pos : Pos} {te : TE} (c : CalC X.prog X.w X.K X.mg X.base CX k x C ps sp dvs) (hr : Room (k + 1) X.A) (hx : Passes CX X E) (hn : PE X (.Name y p) te) (ha : PA X (e :: es) t)
    (he : starEach (e :: es) X.env = (false, eval e X.env) :: starEach es X.env := by rfl) (hpl : (backTo pos (starEach es X.env)).any (·.1) = false := by rfl) :
    PE X (.Call (.Name y p) (e :: es) [] pos) (fun σ H Q => te σ H fun v H1 => v = .ref C ∧ tMake C sp dvs E t σ H1 Q) := by
  obtain ⟨f, fd, ds, M, F, mm, b, v⟩ := c.ex
  refine ⟨fun pins s σ H Q I h => ?_⟩
  refine wpAny_Call_Name_kw (thn (hn.run pins s σ H _ I h) fun u s1 ⟨w, H1, I1, rw, ew, q⟩ => ?_)
  subst ew
  obtain rfl : u = Value.ref C := rw
  refine PySem.W.callWith_K (h₀ := X.base) I1.ok.mod.kin M.kp (thn (ha.run pos pins s1 σ H1 _ I1 q) fun us s2 ⟨vs, H2, I2, r, q⟩ => ⟨I2.kIn, ?_⟩) he hpl
  exact run_make M F hr b v hx I2 r q
/-! ### what is reached along steps -/
/-- a step of y, of one of the kinds, names z -/
def Suc (x : List Pc) (kds : List Str) (y z : Str) : Prop := ∃ ss, (y, ss) ∈ x ∧ ∃ s ∈ ss, s.1 ∈ kds ∧ s.2 = z
inductive Rch (S : Str → Str → Prop) (out : Str → Prop) (st : Str → Prop) : Str → Prop
  | base {z : Str} (h : st z) (n : ¬ out z) : Rch S out st z
  | step {y z : Str} (h : Rch S out st y) (s : S y z) (n : ¬ out z) : Rch S out st z
theorem Rch.sub {S : Str → Str → Prop} {out st : Str → Prop} {fl : Str → Prop} (h1 : ∀ z, st z → ¬ out z → fl z) (h2 : ∀ y z, fl y → S y z → ¬ out z → fl z) : ∀ {z}, Rch S out st z → fl z := fun h => by
  induction h with
  | base h n => exact h1 _ h n
  | step _ s n ih => exact h2 _ _ ih s n
theorem Rch.mono {S : Str → Str → Prop} {out st st' : Str → Prop} (h : ∀ z, st z → ¬ out z → Rch S out st' z) {z : Str} (r : Rch S out st z) : Rch S out st' z := r.sub h fun _ _ a b c => .step a b c
theorem pc_one : ∀ {x : List Pc} {y : Str} {ss tt : List Step}, (x.map (·.1)).Nodup → (y, ss) ∈ x → (y, tt) ∈ x → tt = ss
  | [], _, _, _, _, h, _ => by cases h
  | a :: x, y, ss, tt, nd, h, g => by
    rw [List.map_cons, List.nodup_cons] at nd
    rcases List.mem_cons.mp h with h1 | h1
    · rcases List.mem_cons.mp g with g1 | g1
      · rw [← h1] at g1
        exact (Prod.mk.injEq .. ▸ g1).2
      · exact absurd (List.mem_map.mpr ⟨(y, tt), g1, by rw [← h1]⟩) nd.1
    · rcases List.mem_cons.mp g with g1 | g1
      · exact absurd (List.mem_map.mpr ⟨(y, ss), h1, by rw [← g1]⟩) nd.1
      · exact pc_one nd.2 h1 g1
theorem Suc.one {x : List Pc} {kds : List Str} {y z : Str} {ss : List Step} (nd : (x.map (·.1)).Nodup) (h : (y, ss) ∈ x) : Suc x kds y z ↔ ∃ s ∈ ss, s.1 ∈ kds ∧ s.2 = z :=
  ⟨fun ⟨tt, h2, q⟩ => by rw [pc_one nd h h2] at q; exact q, fun q => ⟨ss, h, q⟩⟩

/-! ### all but lists and dicts stays -/
def NoLD (o : HO) : Prop := (∀ xs, o ≠ .lst xs) ∧ ∀ k, o ≠ .dK k
def SameT (H H' : Hp) : Prop := ∀ b o, NoLD o → H b = some o → H' b = some o
theorem SameT.refl {H : Hp} : SameT H H := fun _ _ _ h => h
theorem SameT.of {H H' : Hp} (x : Same H H') : SameT H H' := fun b o _ h => x b o h
theorem SameT.trans {H H1 H2 : Hp} (x : SameT H H1) (y : SameT H1 H2) : SameT H H2 := fun b o n h => y b o n (x b o n h)
theorem SameT.putL {H H1 : Hp} {p : Addr} {xs : List V} {o : HO} (x : SameT H H1) (h : H1 p = some (.lst xs)) : SameT H (upd H1 p o) := fun b u n e => by
  have q := x b u n e
  rw [upd_ne (fun z => by rw [z, h] at q; exact n.1 xs (Option.some.inj q).symm)]
  exact q
theorem SameT.putD {H H1 : Hp} {p : Addr} {xs : List (Key × V)} {o : HO} (x : SameT H H1) (h : H1 p = some (.dK xs)) : SameT H (upd H1 p o) := fun b u n e => by
  have q := x b u n e
  rw [upd_ne (fun z => by rw [z, h] at q; exact n.2 xs (Option.some.inj q).symm)]
  exact q
theorem noLD_tup {xs : List V} : NoLD (.tup xs) := ⟨(fun _ h => nomatch h), (fun _ h => nomatch h)⟩
theorem SameT.tup {K : PySem.W.Frag} {t : Addr} {H H' : Hp} {xs : List V} (x : SameT H H') (h : SqT K H t xs) : SqT K H' t xs := by
  rcases h with (h | ⟨o, h⟩) | h
  · exact .inl (.inl (x _ _ noLD_tup h))
  · exact .inl (.inr ⟨o, x _ _ ⟨(fun _ h => nomatch h), (fun _ h => nomatch h)⟩ h⟩)
  · exact .inr h
theorem take_not {α : Type} {xs : List α} {i : Nat} {z : α} (nd : xs.Nodup) (h : xs[i]? = some z) : ¬ z ∈ xs.take i := fun m => by
  have e : xs.take (i + 1) = xs.take i ++ [z] := by rw [List.take_add_one, h]; rfl
  have n : (xs.take (i + 1)).Nodup := (List.take_sublist _ _).nodup nd
  rw [e, List.nodup_append] at n
  exact n.2.2 z m z (List.mem_singleton.mpr rfl) rfl
end Mf
namespace Mf
open PySem L2
def top (i : Nat) : Stmt := PySem.Challenge.pw_midfall_k83_reads_first_told.main.body.getD i (.Pass ⟨0, 0, 0, 0⟩)
abbrev sSource : Stmt := top 26
abbrev sDraw : Stmt := top 27
section
variable {P : Program} {w : World} {K : PySem.W.Frag} {mg : Str → Option Value} {base : Heap}

/-! ### _law_source -/
def spSource (K : PySem.W.Frag) : Sp := fun vs H Q _ => ∃ (a : Addr) (ns : List Int), vs = [.ref a] ∧ SqL K H a (ns.map V.int) ∧ ns.length ≤ 63 ∧ ∀ p H', H p = none → Same H H' → Src H' p 1000000000 → Q (.ref p) H'
theorem scSource : FnScope ["_law_script", "_law_great", "_law_seed", "_law_k", "_law_cell"] ["_law_script"] (defScope sSource) := ⟨rfl, rfl, rfl, by decide +kernel, rfl, by decide +kernel, by decide +kernel⟩
theorem ok_source {f : Addr} {fd : FuncData} (F : Fun K "_law_source" "_law_source" sSource f fd) (mI : mg "int" = none) (mE : mg "enumerate" = none) : FnOk P w K mg base CX0 1 f fd ["_law_script"] (spSource K) := by
  refine F.ok scSource (fun vs H Q E h => ?_) (fun cdv A outer s H vs Q E hr h => ?_)
  · obtain ⟨a, ns, rfl, _⟩ := h
    rfl
  · obtain ⟨a, ns, rfl, hs, hl, k⟩ := h
    refine ⟨_, pss_cons (ps_set (i := 1) scSource.nd rfl (.inl rfl) pe_int) (pss_cons (ps_set (i := 2) scSource.nd rfl (.inl rfl) pe_int)
      (pss_cons (ps_for PassesOwn.never rfl (pi_enum (by rfl) mE (pa_cons (pv 0) pa_nil)) (pg_tup rfl (pgs_cons (pg_name (i := 3) scSource.nd rfl (.inl rfl)) (pgs_cons (pg_name (i := 4) scSource.nd rfl (.inl rfl)) pgs_nil)))
        (C8.pss_cut (ps_if (PW.pt (pw_and (pt_cmpR op_eq (pv 1) pe_int (nomark _)) (pw_and1 (pt_cmpR op_ge (pv 4) (pe_op op_pow pe_int pe_int) (nomark _))))) (pss_one (ps_set (i := 1) scSource.nd rfl (.inl rfl) (pv 4))) pss_nil)
        (pss_one (ps_set (i := 2) scSource.nd rfl (.inl rfl) (pe_op op_mod (pe_callTy call_int1 (by rfl) mI (by decide +kernel) (pa_cons (pe_op op_add (pe_op op_mul (pe_op op_add (pv 2) (pe_op op_mod (pe_callTy call_int1 (by rfl) mI (by decide +kernel) (pa_cons (pv 4) pa_nil)) pe_int)) pe_int) (pv 3)) pa_nil)) pe_int)))))
      (pss_one (ps_ret (pe_lst (pa_cons (pv 1) (pa_cons (pv 2) (pa_cons pe_int pa_nil)))))))), ?_⟩
    refine ⟨_, rfl, a, _, rfl, hs, ?_⟩
    refine for_it walk_enum (fun i σ H' => ∃ (g s : Int) (vk vc : Option V), σ = [some (.ref a), some (.int g), some (.int s), vk, vc] ∧ 0 ≤ s ∧ s < 2147483647 ∧ Same H H') ⟨0, 104729, none, none, rfl, by decide, by decide, Same.refl H⟩ (fun i σ H' _ h => h.choose_spec.choose_spec.choose_spec.choose_spec.2.2.2.seq hs) ?_ ?_
    · rintro i x σ H1 H2 hi ⟨g, s, vk, vc, rfl, s0, s1, sm⟩ ⟨T, x1, y, rfl, hT, rfl, e1, e2⟩
      obtain rfl : x1 = .int (i : Nat) := (Option.some.inj e1).symm
      have e2 : (ns.map V.int)[i]? = some y := e2
      rw [List.getElem?_map] at e2
      obtain ⟨m, _, rfl⟩ := Option.map_eq_some_iff.mp e2
      refine ⟨T, _, rfl, .of upd_same, rfl, _, _, rfl, _, _, rfl, rfl, ?_⟩
      refine ⟨fun σ' H' => ∃ g' : Int, σ' = [some (.ref a), some (.int g'), some (.int s), some (.int (i : Nat)), some (.int m)] ∧ H' = upd H1 T (.tup [.int (i : Nat), .int m]), ?_, ?_⟩
      · refine ⟨_, rfl, rfl, _, rfl, ite2 (fun _ => ?_) fun _ => ?_⟩
        · refine ⟨_, rfl, _, _, rfl, rfl, ⟨by decide, by decide, by decide⟩, _, _, rfl, rfl, _, rfl, ite2 (fun _ => ?_) fun _ => ?_⟩
          · exact ⟨_, rfl, m, rfl, rfl⟩
          · exact ⟨g, rfl, rfl⟩
        · exact iteF ⟨g, rfl, rfl⟩
      · rintro σ' H' ⟨g', rfl, rfl⟩
        refine ⟨_, rfl, _, rfl, .inl ⟨_, rfl, _, _, rfl, rfl, (by show (0 : Int) < 2147483629; decide), _, _, rfl, rfl, _, _, rfl, rfl, .inr ⟨(by show -(2 ^ 64) < (48271 : Int); decide), (by show (48271 : Int) < 2 ^ 64; decide)⟩, _, rfl, _, _, rfl, rfl, .inl ⟨_, rfl, _, _, rfl, rfl, (by show (0 : Int) < 2147483647; decide), ?_⟩⟩⟩
        exact ⟨_, _, _, _, rfl, Int.emod_nonneg _ (by decide), Int.emod_lt_of_pos _ (by decide), sm.trans (Same.new hT)⟩
    · rintro σ H1 ⟨g, s, vk, vc, rfl, s0, s1, sm⟩
      refine ⟨_, rfl, _, rfl, (by show 3 ≤ sizeLine; decide), fun p hp => ?_⟩
      exact k p _ (sm.free hp) (sm.trans (Same.new hp)) ⟨g, s, 0, upd_same, s0, s1, by decide, by decide⟩

/-! ### _law_draw -/
def spDraw : Sp := fun vs H Q _ => ∃ (a : Addr) (many : Int) (n : Nat), vs = [.ref a, .int many] ∧ 0 < many ∧ many.natAbs < 2 ^ 200 ∧ Src H a (n + 1) ∧ ∀ v H', 0 ≤ v → v < many → Kp a H H' → Src H' a n → Q (.int v) H'
theorem scDraw : FnScope ["_law_source_here", "_law_many", "_law_value", "_law_stirred"] ["_law_source_here", "_law_many"] (defScope sDraw) := ⟨rfl, rfl, rfl, by decide +kernel, rfl, by decide +kernel, by decide +kernel⟩
theorem ok_draw {f : Addr} {fd : FuncData} (F : Fun K "_law_draw" "_law_draw" sDraw f fd) (mI : mg "int" = none) : FnOk P w K mg base CX0 1 f fd ["_law_source_here", "_law_many"] spDraw := by
  refine F.ok scDraw (fun vs H Q E h => ?_) (fun cdv A outer s H vs Q E hr h => ?_)
  · obtain ⟨a, m, n, rfl, _⟩ := h
    rfl
  · obtain ⟨a, many, n, rfl, m0, mb, ⟨g, sd, c, ha, s0, s1, c0, c1⟩, k⟩ := h
    refine ⟨_, pss_cons (ps_if (pt_cmpR op_gt (pe_ix ix_list (pv 0) pe_int (fun _ _ => rfl)) pe_int (nomark _))
        (pss_cons (ps_set (i := 2) scDraw.nd rfl (.inl rfl) (pe_op op_mod (pe_callTy call_int1 (by rfl) mI (by decide +kernel) (pa_cons (pe_ix ix_list (pv 0) pe_int (fun _ _ => rfl)) pa_nil)) (pv 1)))
        (pss_cons (ps_asg (pe_op op_fdivW (pe_ix ix_list (pv 0) pe_int (fun _ _ => rfl)) (pv 1)) (pg_sub (pv 0) pe_int set_list))
        (pss_one (ps_ret (pv 2))))) pss_nil)
      (pss_cons (ps_asg (pe_op op_add (pe_ix ix_list (pv 0) pe_int (fun _ _ => rfl)) pe_int) (pg_sub (pv 0) pe_int set_list))
      (pss_cons (ps_set (i := 3) scDraw.nd rfl (.inl rfl) (pe_op op_mod (pe_callTy call_int1 (by rfl) mI (by decide +kernel) (pa_cons (pe_op op_pow (pe_op op_add (pe_ix ix_list (pv 0) pe_int (fun _ _ => rfl)) (pe_op op_mul pe_int (pe_ix ix_list (pv 0) pe_int (fun _ _ => rfl)))) pe_int) pa_nil)) pe_int))
      (pss_one (ps_ret (pe_op op_mod (pe_callTy call_int1 (by rfl) mI (by decide +kernel) (pa_cons (pe_op op_mod (pe_callTy call_int1 (by rfl) mI (by decide +kernel) (pa_cons (pe_op op_mul (pe_op op_add (pv 3) (pe_ix ix_list (pv 0) pe_int (fun _ _ => rfl))) pe_int) pa_nil)) pe_int) pa_nil)) (pv 1)))))), ?_⟩
    refine ⟨_, rfl, a, _, _, _, rfl, rfl, .of ha, rfl, _, _, rfl, rfl, _, rfl, ite2 (fun _ => ?_) fun _ => ?_⟩
    · refine ⟨_, rfl, a, _, _, _, rfl, rfl, .of ha, rfl, .inl ⟨_, rfl, _, rfl, _, _, rfl, rfl, m0, ?_⟩⟩
      refine ⟨_, rfl, a, _, _, _, rfl, rfl, .of ha, rfl, _, rfl, _, _, rfl, rfl, wide_div m0 mb (by decide) (by decide), _, rfl, a, _, _, 0, rfl, rfl, ha, rfl, _, rfl, ?_⟩
      exact k _ _ (Int.emod_nonneg _ (by omega)) (Int.emod_lt_of_pos _ m0) (Kp.refl.put) ⟨g / many, sd, c, upd_same, s0, s1, c0, by omega⟩
    · refine ⟨_, rfl, a, _, _, _, rfl, rfl, .of ha, rfl, _, _, rfl, rfl, _, rfl, a, _, _, 2, rfl, rfl, ha, rfl, ?_⟩
      have h2 : (upd H a (.lst [.int g, .int sd, .int (c + 1)])) a = some (.lst [.int g, .int sd, .int (c + 1)]) := upd_same
      refine ⟨_, rfl, a, _, _, _, rfl, rfl, .of h2, rfl, _, rfl, a, _, _, _, rfl, rfl, .of h2, rfl, _, _, rfl, rfl, .inl ⟨(by show -(2 ^ 64) < (7919 : Int); decide), (by show (7919 : Int) < 2 ^ 64; decide)⟩, _, _, rfl, rfl, _, _, rfl, rfl, ⟨by decide, by decide, ?_⟩, .inl ⟨_, rfl, _, _, rfl, rfl, (by show (0 : Int) < 2147483647; decide), ?_⟩⟩
      · show (sd + 7919 * (c + 1)).natAbs < 2 ^ 64
        omega
      · refine ⟨_, rfl, _, rfl, a, _, _, _, rfl, rfl, .of h2, rfl, _, _, rfl, rfl, _, _, rfl, rfl, .inr ⟨(by show -(2 ^ 64) < (40692 : Int); decide), (by show (40692 : Int) < 2 ^ 64; decide)⟩, .inl ⟨_, rfl, _, _, rfl, rfl, (by show (0 : Int) < 2147483629; decide), .inl ⟨_, rfl, _, rfl, _, _, rfl, rfl, m0, ?_⟩⟩⟩
        exact k _ _ (Int.emod_nonneg _ (by omega)) (Int.emod_lt_of_pos _ m0) (Kp.refl.put) ⟨g, sd, c + 1, h2, s0, s1, by omega, by omega⟩
end
end Mf
namespace Mf
open PySem L2
section
variable {P : Program} {w : World} {K : PySem.W.Frag} {mg : Str → Option Value} {base : Heap}

/-! ### is_name -/
def nameB (z : Str) : Bool := decide (1 ≤ z.length) && decide (z.length ≤ 8) && z.cps.toList.all fun c => decide (97 ≤ c) && decide (c ≤ 122)
theorem nameB_iff (z : Str) : nameB z = true ↔ IsName z := by
  have h : z.length = z.cps.size := rfl
  unfold nameB IsName
  rw [h, Bool.and_eq_true_iff, Bool.and_eq_true_iff, List.all_eq_true]
  refine ⟨fun ⟨⟨a, b⟩, c⟩ => ⟨of_decide_eq_true a, of_decide_eq_true b, fun x hx => ?_⟩, fun ⟨a, b, c⟩ => ⟨⟨decide_eq_true a, decide_eq_true b⟩, fun x hx => ?_⟩⟩
  · have q := Bool.and_eq_true_iff.mp (c x hx)
    exact ⟨of_decide_eq_true q.1, of_decide_eq_true q.2⟩
  · have q := c x hx
    exact Bool.and_eq_true_iff.mpr ⟨decide_eq_true q.1, decide_eq_true q.2⟩
theorem sign_le (a b : Nat) : (!decide ([b] < [a])) = decide (a ≤ b) := by
  have e : ([b] < [a]) ↔ b < a := by
    rw [List.cons_lt_cons_iff]
    simp
  by_cases h : a ≤ b
  · rw [decide_eq_true h, decide_eq_false (fun q => by have := e.mp q; omega)]; rfl
  · rw [decide_eq_false h, decide_eq_true (e.mpr (by omega))]; rfl
theorem le_of_sign {c : Nat} (q : (!decide ([c] < [97])) = true) : 97 ≤ c := by
  rw [sign_le] at q; exact of_decide_eq_true q
theorem le_sign {c : Nat} (q : 97 ≤ c) : (!decide ([c] < [97])) = true := by
  rw [sign_le]; exact decide_eq_true q
def spIsName : Sp := fun vs H Q _ => ∃ z : Str, vs = [.str z] ∧ z.length ≤ sizeLine ∧ ∀ H', Same H H' → Q (.bl (nameB z)) H'
abbrev sIs_name : Stmt := top 9
theorem scIs_name : FnScope ["value", "letter"] ["value"] (defScope sIs_name) := ⟨rfl, rfl, rfl, by decide +kernel, rfl, by decide +kernel, by decide +kernel⟩
theorem ok_is_name {f : Addr} {fd : FuncData} {t : Tok} (F : Fun K "is_name" "is_name" sIs_name f fd) (mIsi : mg "isinstance" = none) (mStr : mg "str" = none) (mLen : mg "len" = none) (mAll : mg "all" = none) (mg_LONGEST_NAME : mg "LONGEST_NAME" = some (.int 8 t)) : FnOk P w K mg base CX0 1 f fd ["value"] spIsName := by
  refine F.ok scIs_name (fun vs H Q E h => ?_) (fun cdv A outer s H vs Q E hr h => ?_)
  · obtain ⟨z, rfl, _⟩ := h
    rfl
  · obtain ⟨z, rfl, hz, k⟩ := h
    refine ⟨_, (pss_cons (ps_if (PW.pt (pw_or (pt_not (pt_val (pe_callB (k_isi K) (by rfl) mIsi (by decide +kernel) (pa_cons (pv 0) (pa_cons (pe_bltn (v := .ty "str") (by rfl) mStr (by decide +kernel) rfl) pa_nil))))) (pw_or1 (pt_not (pt_chain op_le op_le pe_int (pe_callB call_len_str (by rfl) mLen (by decide +kernel) (pa_cons (pv 0) pa_nil)) (pe_glob (v := .int 8) rfl mg_LONGEST_NAME ⟨_, rfl⟩))))))
        (pss_one (ps_ret pe_bl)) pss_nil)
      (pss_one (ps_ret (pe_callB (k_all K) (by rfl) mAll (by decide +kernel) (pa_cons (pe_lc (own := [("letter", 1)]) (g := (gName 1)) (tt := tYes) rfl scIs_name.nd (pi_str (pv 0)) (blkOk_by (own := [("letter", 1)]) (N := ["value", "letter"]) (sc := defScope sIs_name) (by decide +kernel)) (fun _ _ _ _ _ => (pg_name (i := 1) scIs_name.nd rfl (by first | exact Or.inl rfl | exact Or.inr rfl))) (fun _ _ _ _ _ => pts_nil) (fun _ _ _ _ _ => (pe_chain op_le_str op_le_str pe_str (pv 1) pe_str))) pa_nil))))), ?_⟩
    refine ⟨_, rfl, _, _, _, _, true, rfl, .ty _, .base (.str _), kit_ty (by decide +kernel), _, rfl, iteF ?_⟩
    refine ⟨_, rfl, z, rfl, hz, _, _, rfl, rfl, _, rfl, ite2 (fun a1 => ?_) fun a1 => ?_⟩
    · have b1 : 1 ≤ z.length := by have := of_decide_eq_true a1; omega
      refine ⟨_, _, rfl, rfl, _, rfl, ite2 (fun a2 => ?_) fun a2 => ?_⟩
      · have b2 : ¬ z.length ≤ 8 := fun q => by
          rw [decide_eq_true (by omega : (z.length : Int) ≤ 8)] at a2; cases a2
        have e : nameB z = false := by unfold nameB; rw [decide_eq_false b2, Bool.and_false, Bool.false_and]
        have q := k H (Same.refl H)
        rw [e] at q; exact q
      · have b2 : z.length ≤ 8 := by
          by_cases q : z.length ≤ 8
          · exact q
          · rw [decide_eq_false (by omega : ¬ (z.length : Int) ≤ 8)] at a2; exact absurd a2 (by decide)
        refine ⟨_, rfl, _, rfl, fun D hD => ?_⟩
        refine lc_it walk_str (fun i H' => H' D = some (.lst (((z.cps.toList.take i).map fun c => decide (97 ≤ c) && decide (c ≤ 122)).map V.bl)) ∧ Same H H') ⟨upd_same, Same.new hD⟩ (fun _ _ _ _ => trivial) ?_ ?_
        · rintro i x H4 H5 hi ⟨h4, s4⟩ ⟨rfl, c, hc, rfl⟩
          refine ⟨rfl, yes_then ?_⟩
          have hc' : z.cps.toList[i]? = some c := by rw [Array.getElem?_toList]; exact hc
          have hlen : i < z.length := hi
          have fin : ∀ b : Bool, b = (decide (97 ≤ c) && decide (c ≤ 122)) → ∃ acc, H5 D = some (.lst acc) ∧ acc.length < sizeLine ∧
              upd H5 D (.lst (acc ++ [.bl b])) D = some (.lst (((z.cps.toList.take (i + 1)).map fun c => decide (97 ≤ c) && decide (c ≤ 122)).map V.bl)) ∧ Same H (upd H5 D (.lst (acc ++ [.bl b]))) := by
            rintro b rfl
            refine ⟨_, h4, ?_, ?_, s4.mut hD⟩
            · rw [List.length_map, List.length_map]
              exact Nat.lt_of_le_of_lt (List.length_take_le _ _) (Nat.lt_of_lt_of_le (by omega : i < 9) (by decide))
            · rw [upd_same, List.take_add_one, hc', List.map_append, List.map_append]; rfl
          refine ⟨_, rfl, _, _, rfl, rfl, _, rfl, ite2 (fun q => ?_) fun q => ?_⟩
          · refine ⟨_, _, rfl, rfl, ?_⟩
            refine fin _ ?_
            have e1 : 97 ≤ c := le_of_sign q
            rw [decide_eq_true e1, Bool.true_and]
            exact sign_le c 122
          · refine fin false ?_
            have e1 : ¬ 97 ≤ c := fun h => q (le_sign h)
            rw [decide_eq_false e1, Bool.false_and]
        · rintro H4 ⟨h4, s4⟩
          refine ⟨D, _, rfl, .of h4, ?_⟩
          have e : nameB z = (((z.cps.toList.take z.cps.size).map fun c => decide (97 ≤ c) && decide (c ≤ 122)).all id) := by
            unfold nameB
            rw [decide_eq_true b1, decide_eq_true b2, List.take_of_length_le (by rw [Array.length_toList]; exact Nat.le_refl _), List.all_map]
            rfl
          have q := k H4 s4
          rw [e] at q
          exact q
    · have b1 : ¬ 1 ≤ z.length := fun q => by
        rw [decide_eq_true (by omega : (1 : Int) ≤ z.length)] at a1; exact a1 rfl
      have e : nameB z = false := by unfold nameB; rw [decide_eq_false b1, Bool.false_and, Bool.false_and]
      have q := k H (Same.refl H)
      rw [e] at q
      exact ⟨_, rfl, iteT q⟩
end
end Mf
namespace Mf
open PySem L2
section
variable {P : Program} {w : World} {K : PySem.W.Frag} {mg : Str → Option Value} {base : Heap}

/-! ### _is_step, of two texts -/
def kinds : List Str := ["read", "say", "call", "try"]
def stepB (kd wd : Str) : Bool := decide (kd ∈ kinds) && nameB wd
def spIsStep : Sp := fun vs H Q _ => ∃ (t : Addr) (kd wd : Str), vs = [.ref t] ∧ H t = some (.tup [.str kd, .str wd]) ∧ wd.length ≤ sizeLine ∧ ∀ H', Same H H' → Q (.bl (stepB kd wd)) H'
abbrev sIs_step : Stmt := top 18
theorem scIs_step : FnScope ["step"] ["step"] (defScope sIs_step) := ⟨rfl, rfl, rfl, by decide +kernel, rfl, by decide +kernel, by decide +kernel⟩
theorem ok_is_step {f aK : Addr} {fd : FuncData} (F : Fun K "_is_step" "_is_step" sIs_step f fd) (mIsi : mg "isinstance" = none) (mTuple : mg "tuple" = none) (mLen : mg "len" = none) (mg_KINDS : mg "KINDS" = some (.ref aK)) (qK : ∀ H, SqT K H aK (kinds.map V.str))
    (c_is_name : Cal P w K mg base CX0 1 "is_name" ["value"] spIsName) : FnOk P w K mg base CX0 2 f fd ["step"] spIsStep := by
  refine F.ok scIs_step (fun vs H Q E h => ?_) (fun cdv A outer s H vs Q E hr h => ?_)
  · obtain ⟨t, kd, wd, rfl, _⟩ := h
    rfl
  · obtain ⟨t, kd, wd, rfl, ht, hw, k⟩ := h
    have hr_is_name := hr
    refine ⟨_, (pss_one (ps_ret (pe_and (pe_callB (k_isi K) (by rfl) mIsi (by decide +kernel) (pa_cons (pv 0) (pa_cons (pe_bltn (v := .ty "tuple") (by rfl) mTuple (by decide +kernel) rfl) pa_nil))) (pe_and (pe_cmpR op_eq (pe_callB (k_len K) (by rfl) mLen (by decide +kernel) (pa_cons (pv 0) pa_nil)) pe_int (nomark _)) (pe_and (pe_cmpR (oin K) (pe_ix (ixt K) (pv 0) pe_int (fun _ _ => rfl)) (pe_glob (v := .ref _) rfl mg_KINDS rfl) (by rfl)) (pe_one (pe_cal c_is_name hr_is_name pass0 (pa_cons (pe_ix (ixt K) (pv 0) pe_int (fun _ _ => rfl)) pa_nil)))))))), ?_⟩
    refine ⟨_, rfl, _, _, _, _, true, rfl, .ty _, .base (.tup ht), kit_ty (by decide +kernel), _, rfl, iteT ?_⟩
    refine ⟨_, rfl, t, _, rfl, .inr (.of ht), ?_⟩
    refine ⟨rfl, _, rfl, iteT ?_⟩
    refine ⟨_, rfl, t, _, 0, _, rfl, rfl, .of ht, rfl, ?_⟩
    refine ⟨aK, _, rfl, .inr (qK _), rfl, flat_strs kinds, _, rfl, ?_⟩
    show if inV (.str kd) (kinds.map V.str) = true then _ else _
    rw [inV_str]
    refine ite2 (fun q => ?_) fun q => ?_
    · refine ⟨_, rfl, t, _, 1, _, rfl, rfl, .of ht, rfl, wd, rfl, hw, fun H' s' => ?_⟩
      have e : stepB kd wd = nameB wd := by unfold stepB; rw [q, Bool.true_and]
      have z := k H' s'
      rw [e] at z; exact z
    · have e : stepB kd wd = false := by unfold stepB; rw [Bool.eq_false_iff.mpr q, Bool.false_and]
      have z := k H (Same.refl H)
      rw [e] at z; exact z
end
end Mf
namespace Mf
open PySem L2
section
variable {P : Program} {w : World} {K : PySem.W.Frag} {mg : Str → Option Value} {base : Heap}

/-! ### _is_body, of steps that are two texts -/
/-- the steps ss lie at the addresses ts -/
def StA (H : Hp) (ts : List Addr) (ss : List (Str × Str)) : Prop := Paired (fun t s => H t = some (.tup [.str s.1, .str s.2])) ts ss
theorem StA.same {H H' : Hp} {ts : List Addr} {ss : List (Str × Str)} (x : StA H ts ss) (h : Same H H') : StA H' ts ss := by
  induction x with
  | nil => exact .nil
  | cons a _ ih => exact .cons (h _ _ a) ih
theorem StA.get {H : Hp} {ts : List Addr} {ss : List (Str × Str)} (x : StA H ts ss) {i : Nat} {t : Addr} (h : ts[i]? = some t) : ∃ s, ss[i]? = some s ∧ H t = some (.tup [.str s.1, .str s.2]) := by
  induction x generalizing i with
  | nil => simp at h
  | cons a _ ih =>
    match i, h with
    | 0, h => cases h; exact ⟨_, rfl, a⟩
    | i + 1, h => exact ih h
theorem SameL {t : Addr} {H H' : Hp} {xs : List V} (x : Same H H') (h : SqL K H t xs) : SqL K H' t xs := by
  rcases h with (h | ⟨o, h⟩) | h
  · exact .inl (.inl (x _ _ h))
  · exact .inl (.inr ⟨o, x _ _ h⟩)
  · exact .inr h
theorem StA.mem {ss : List (Str × Str)} {i : Nat} {s : Str × Str} (h : ss[i]? = some s) : s ∈ ss := List.mem_of_getElem? h
def bodyB (ss : List (Str × Str)) : Bool := decide (ss.length ≤ 12) && ss.all fun s => stepB s.1 s.2
def spIsBody (K : PySem.W.Frag) : Sp := fun vs H Q _ => ∃ (b : Addr) (ts : List Addr) (ss : List (Str × Str)), vs = [.ref b] ∧ (SqL K H b (ts.map V.ref) ∨ SqT K H b (ts.map V.ref)) ∧ StA H ts ss ∧ (∀ s ∈ ss, s.2.length ≤ sizeLine) ∧
  ∀ H', Same H H' → Q (.bl (bodyB ss)) H'
abbrev sIs_body : Stmt := top 17
theorem scIs_body : FnScope ["steps", "step"] ["steps"] (defScope sIs_body) := ⟨rfl, rfl, rfl, by decide +kernel, rfl, by decide +kernel, by decide +kernel⟩
theorem ok_is_body {f : Addr} {fd : FuncData} {tk : Tok} (F : Fun K "_is_body" "_is_body" sIs_body f fd) (mLen : mg "len" = none) (mAll : mg "all" = none) (mg_MOST_STEPS : mg "MOST_STEPS" = some (.int 12 tk))
    (c__is_step : Cal P w K mg base CX0 2 "_is_step" ["step"] spIsStep) : FnOk P w K mg base CX0 3 f fd ["steps"] (spIsBody K) := by
  refine F.ok scIs_body (fun vs H Q E h => ?_) (fun cdv A outer s H vs Q E hr h => ?_)
  · obtain ⟨b, ts, ss, rfl, _⟩ := h
    rfl
  · obtain ⟨b, ts, ss, rfl, hb, st, hw, k⟩ := h
    have hr__is_step := hr
    have ln : ts.length = ss.length := Paired.length st
    rcases hb with hb | hb
    · refine ⟨_, (pss_one (ps_ret (pe_and (pe_cmpR op_le (pe_callB (k_len K) (by rfl) mLen (by decide +kernel) (pa_cons (pv 0) pa_nil)) (pe_glob (v := .int 12) rfl mg_MOST_STEPS ⟨_, rfl⟩) (nomark _)) (pe_one (pe_callB (k_all K) (by rfl) mAll (by decide +kernel) (pa_cons (pe_lc (own := [("step", 1)]) (g := (gName 1)) (tt := tYes) rfl scIs_body.nd (pi_list (pv 0)) (blkOk_by (own := [("step", 1)]) (N := ["steps", "step"]) (sc := defScope sIs_body) (by decide +kernel)) (fun _ _ _ _ _ => (pg_name (i := 1) scIs_body.nd rfl (by first | exact Or.inl rfl | exact Or.inr rfl))) (fun _ _ _ _ _ => pts_nil) (fun _ _ _ _ _ => (pe_cal c__is_step hr__is_step pass0 (pa_cons (pv 1) pa_nil)))) pa_nil)))))), ?_⟩
      refine ⟨_, rfl, b, _, rfl, .inl hb, _, _, rfl, rfl, _, rfl, ite2 (fun q => ?_) fun q => ?_⟩
      · have few : decide (ss.length ≤ 12) = true := by
          have q := of_decide_eq_true q
          rw [List.length_map, ln] at q
          exact decide_eq_true (by omega)
        refine ⟨_, rfl, b, rfl, ⟨_, hb⟩, fun D hD => ?_⟩
        refine lc_it walk_list (fun i H' => H' D = some (.lst (((ss.take i).map fun s => stepB s.1 s.2).map V.bl)) ∧ Same H H') ⟨upd_same, Same.new hD⟩ (fun i H' _ q => SameL q.2 hb) ?_ ?_
        · rintro i x H4 H5 hi ⟨h4, s4⟩ ⟨rfl, hx⟩
          rw [List.getElem?_map] at hx
          obtain ⟨t, ht, rfl⟩ := Option.map_eq_some_iff.mp hx
          obtain ⟨s, hs, hts⟩ := st.get ht
          have li : i < ts.length := by rw [List.length_map] at hi; exact hi
          have f12 : ss.length ≤ 12 := of_decide_eq_true few
          refine ⟨rfl, yes_then ?_⟩
          refine ⟨_, rfl, t, s.1, s.2, rfl, s4 _ _ hts, hw s (StA.mem hs), fun H6 s6 => ⟨_, s6 _ _ h4, ?_, ?_, (s4.trans s6).mut hD⟩⟩
          · rw [List.length_map, List.length_map]
            exact Nat.lt_of_le_of_lt (List.length_take_le _ _) (Nat.lt_of_lt_of_le (by omega : i < 12) (by decide))
          · rw [upd_same, List.take_add_one, hs, List.map_append, List.map_append]; rfl
        · rintro H4 ⟨h4, s4⟩
          refine ⟨D, _, rfl, .of h4, ?_⟩
          have e : bodyB ss = (((ss.take (ts.map V.ref).length).map fun s => stepB s.1 s.2).all id) := by
            unfold bodyB
            rw [few, Bool.true_and, List.take_of_length_le (by rw [List.length_map, ln]; exact Nat.le_refl _), List.all_map]
            rfl
          have z := k H4 s4
          rw [e] at z
          exact z
      · have few : decide (ss.length ≤ 12) = false := by
          refine decide_eq_false fun h => q (decide_eq_true ?_)
          rw [List.length_map, ln]
          omega
        have e : bodyB ss = false := by unfold bodyB; rw [few, Bool.false_and]
        have z := k H (Same.refl H)
        rw [e] at z
        exact z
    · refine ⟨_, (pss_one (ps_ret (pe_and (pe_cmpR op_le (pe_callB (k_len K) (by rfl) mLen (by decide +kernel) (pa_cons (pv 0) pa_nil)) (pe_glob (v := .int 12) rfl mg_MOST_STEPS ⟨_, rfl⟩) (nomark _)) (pe_one (pe_callB (k_all K) (by rfl) mAll (by decide +kernel) (pa_cons (pe_lc (own := [("step", 1)]) (g := (gName 1)) (tt := tYes) rfl scIs_body.nd (pi_tup (pv 0)) (blkOk_by (own := [("step", 1)]) (N := ["steps", "step"]) (sc := defScope sIs_body) (by decide +kernel)) (fun _ _ _ _ _ => (pg_name (i := 1) scIs_body.nd rfl (by first | exact Or.inl rfl | exact Or.inr rfl))) (fun _ _ _ _ _ => pts_nil) (fun _ _ _ _ _ => (pe_cal c__is_step hr__is_step pass0 (pa_cons (pv 1) pa_nil)))) pa_nil)))))), ?_⟩
      refine ⟨_, rfl, b, _, rfl, .inr hb, _, _, rfl, rfl, _, rfl, ite2 (fun q => ?_) fun q => ?_⟩
      · have few : decide (ss.length ≤ 12) = true := by
          have q := of_decide_eq_true q
          rw [List.length_map, ln] at q
          exact decide_eq_true (by omega)
        refine ⟨_, rfl, b, rfl, ⟨_, hb⟩, fun D hD => ?_⟩
        refine lc_it walk_tup (fun i H' => H' D = some (.lst (((ss.take i).map fun s => stepB s.1 s.2).map V.bl)) ∧ Same H H') ⟨upd_same, Same.new hD⟩ (fun i H' _ q => q.2.tup hb) ?_ ?_
        · rintro i x H4 H5 hi ⟨h4, s4⟩ ⟨rfl, hx⟩
          rw [List.getElem?_map] at hx
          obtain ⟨t, ht, rfl⟩ := Option.map_eq_some_iff.mp hx
          obtain ⟨s, hs, hts⟩ := st.get ht
          have li : i < ts.length := by rw [List.length_map] at hi; exact hi
          have f12 : ss.length ≤ 12 := of_decide_eq_true few
          refine ⟨rfl, yes_then ?_⟩
          refine ⟨_, rfl, t, s.1, s.2, rfl, s4 _ _ hts, hw s (StA.mem hs), fun H6 s6 => ⟨_, s6 _ _ h4, ?_, ?_, (s4.trans s6).mut hD⟩⟩
          · rw [List.length_map, List.length_map]
            exact Nat.lt_of_le_of_lt (List.length_take_le _ _) (Nat.lt_of_lt_of_le (by omega : i < 12) (by decide))
          · rw [upd_same, List.take_add_one, hs, List.map_append, List.map_append]; rfl
        · rintro H4 ⟨h4, s4⟩
          refine ⟨D, _, rfl, .of h4, ?_⟩
          have e : bodyB ss = (((ss.take (ts.map V.ref).length).map fun s => stepB s.1 s.2).all id) := by
            unfold bodyB
            rw [few, Bool.true_and, List.take_of_length_le (by rw [List.length_map, ln]; exact Nat.le_refl _), List.all_map]
            rfl
          have z := k H4 s4
          rw [e] at z
          exact z
      · have few : decide (ss.length ≤ 12) = false := by
          refine decide_eq_false fun h => q (decide_eq_true ?_)
          rw [List.length_map, ln]
          omega
        have e : bodyB ss = false := by unfold bodyB; rw [few, Bool.false_and]
        have z := k H (Same.refl H)
        rw [e] at z
        exact z
end
end Mf
namespace Mf
open PySem L2
section
variable {P : Program} {w : World} {K : PySem.W.Frag} {mg : Str → Option Value} {base : Heap}

/-! ### _checked_bodies, of procedures that are right -/
/-- a procedure: its name, where its body lies, where its steps lie, the steps -/
structure Pr where
  name : Str
  b : Addr
  ts : List Addr
  ss : List (Str × Str)
def PrA (K : PySem.W.Frag) (H : Hp) (p : Addr) (r : Pr) : Prop := SqT K H p [.str r.name, .ref r.b] ∧ (SqL K H r.b (r.ts.map V.ref) ∨ SqT K H r.b (r.ts.map V.ref)) ∧ StA H r.ts r.ss
theorem PrA.same {H H' : Hp} {p : Addr} {r : Pr} (x : PrA K H p r) (h : Same H H') : PrA K H' p r :=
  ⟨h.tup x.1, x.2.1.elim (fun q => .inl (SameL h q)) (fun q => .inr (h.tup q)), x.2.2.same h⟩
def Right (r : Pr) : Prop := IsName r.name ∧ bodyB r.ss = true ∧ ∀ s ∈ r.ss, s.2.length ≤ sizeLine
/-- the dict of the bodies: names to where the tuples lie -/
def kvsOf : List Pr → List Addr → List (Key × V)
  | r :: rs, u :: us => (Sum.inr r.name, V.ref u) :: kvsOf rs us
  | _, _ => []
def BoA (K : PySem.W.Frag) (H : Hp) (us : List Addr) (rs : List Pr) : Prop := Paired (fun u r => SqT K H u (r.ts.map V.ref)) us rs
theorem BoA.same {H H' : Hp} {us : List Addr} {rs : List Pr} (x : BoA K H us rs) (h : Same H H') : BoA K H' us rs := by
  induction x with
  | nil => exact .nil
  | cons a _ ih => exact .cons (h.tup a) ih
theorem kvsOf_snoc : ∀ {rs : List Pr} {us : List Addr} (r : Pr) (u : Addr), us.length = rs.length → kvsOf (rs ++ [r]) (us ++ [u]) = kvsOf rs us ++ [(Sum.inr r.name, V.ref u)]
  | [], [], r, u, _ => rfl
  | a :: rs, b :: us, r, u, h => by
    show _ :: kvsOf (rs ++ [r]) (us ++ [u]) = _
    rw [kvsOf_snoc r u (by simpa using h)]; rfl
  | [], b :: us, _, _, h => by simp at h
  | a :: rs, [], _, _, h => by simp at h
theorem kvsOf_any : ∀ {rs : List Pr} {us : List Addr} {z : Str}, us.length = rs.length → (kvsOf rs us).any (fun kv => decide (kv.1 = Sum.inr z)) = decide (z ∈ rs.map Pr.name)
  | [], [], z, _ => by simp [kvsOf]
  | a :: rs, b :: us, z, h => by
    show (decide ((Sum.inr a.name : Key) = Sum.inr z) || (kvsOf rs us).any _) = _
    rw [kvsOf_any (by simpa using h)]
    by_cases e : a.name = z
    · simp [e]
    · simp [e, Ne.symm e]
  | [], b :: us, _, h => by simp at h
  | a :: rs, [], _, h => by simp at h
theorem kvsOf_len : ∀ {rs : List Pr} {us : List Addr}, us.length = rs.length → (kvsOf rs us).length = rs.length
  | [], [], _ => rfl
  | a :: rs, b :: us, h => by
    show (kvsOf rs us).length + 1 = rs.length + 1
    rw [kvsOf_len (by simpa using h)]
  | [], b :: us, h => by simp at h
  | a :: rs, [], h => by simp at h
def spChecked (K : PySem.W.Frag) : Sp := fun vs H Q _ => ∃ (a : Addr) (ps : List Addr) (rs : List Pr), vs = [.ref a] ∧ (SqL K H a (ps.map V.ref) ∨ SqT K H a (ps.map V.ref)) ∧ Paired (PrA K H) ps rs ∧ rs.length ≤ 16 ∧ rs ≠ [] ∧ (rs.map Pr.name).Nodup ∧ (∀ r ∈ rs, Right r) ∧
  ∀ d us H', H' d = some (.dK (kvsOf rs us)) → BoA K H' us rs → Same H H' → Q (.ref d) H'
abbrev sChecked_bodies : Stmt := top 16
theorem scChecked_bodies : FnScope ["procedures", "bodies", "line", "name", "body"] ["procedures"] (defScope sChecked_bodies) := ⟨rfl, rfl, rfl, by decide +kernel, rfl, by decide +kernel, by decide +kernel⟩
theorem paired_get {α β : Type} {R : α → β → Prop} {xs : List α} {ys : List β} (r : Paired R xs ys) {i : Nat} {x : α} (h : xs[i]? = some x) : ∃ y, ys[i]? = some y ∧ R x y := by
  induction r generalizing i with
  | nil => simp at h
  | cons a _ ih =>
    match i, h with
    | 0, h => cases h; exact ⟨_, rfl, a⟩
    | i + 1, h => exact ih h
theorem paired_snoc {α β : Type} {R : α → β → Prop} {xs : List α} {ys : List β} (r : Paired R xs ys) {x : α} {y : β} (h : R x y) : Paired R (xs ++ [x]) (ys ++ [y]) := by
  induction r with
  | nil => exact .cons h .nil
  | cons a _ ih => exact .cons a ih
theorem SqT_put {H : Hp} {d u : Addr} {o : HO} {kvs : List (Key × V)} {xs : List V} (h : H d = some (.dK kvs)) (x : SqT K H u xs) : SqT K (upd H d o) u xs := by
  rcases x with (x | ⟨q, x⟩) | x
  · exact .inl (.inl (by rw [upd_ne (fun e => by rw [e, h] at x; simp at x)]; exact x))
  · exact .inl (.inr ⟨q, by rw [upd_ne (fun e => by rw [e, h] at x; simp at x)]; exact x⟩)
  · exact .inr x
theorem BoA.put {H : Hp} {d : Addr} {o : HO} {kvs : List (Key × V)} {us : List Addr} {rs : List Pr} (h : H d = some (.dK kvs)) (x : BoA K H us rs) : BoA K (upd H d o) us rs := by
  induction x with
  | nil => exact .nil
  | cons a _ ih => exact .cons (SqT_put h a) ih
theorem fresh_name {rs : List Pr} {i : Nat} {r : Pr} (nd : (rs.map Pr.name).Nodup) (h : rs[i]? = some r) : r.name ∉ (rs.take i).map Pr.name := by
  intro m
  rw [List.map_take] at m
  obtain ⟨j, hj, e⟩ := List.mem_take_iff_getElem.mp m
  have hi : i < rs.length := by
    rcases Nat.lt_or_ge i rs.length with q | q
    · exact q
    · rw [List.getElem?_eq_none q] at h; cases h
  have hr : rs[i] = r := by rw [List.getElem?_eq_getElem hi] at h; exact Option.some.inj h
  have e2 : (rs.map Pr.name)[i]'(by simpa using hi) = r.name := by rw [List.getElem_map, hr]
  have hl : i < (rs.map Pr.name).length := by simpa using hi
  exact (List.pairwise_iff_getElem.mp nd) j i (by omega) hl (by omega) (e.trans e2.symm)
theorem no_val {kvs : List (Key × V)} {k : Key} (h : kvs.any (fun kv => decide (kv.1 = k)) = false) : valV kvs k = none := by
  unfold valV
  rw [List.find?_eq_none.mpr]
  · rfl
  · intro x hx q
    have := List.any_eq_false.mp h x hx
    exact this q
theorem ok_checked {f : Addr} {fd : FuncData} {tk : Tok} (F : Fun K "_checked_bodies" "_checked_bodies" sChecked_bodies f fd) (mEnum : mg "enumerate" = none) (mTuple : mg "tuple" = none) (mg_MOST_PROCEDURES : mg "MOST_PROCEDURES" = some (.int 16 tk))
    (c_is_name : Cal P w K mg base CX0 1 "is_name" ["value"] spIsName) (c__is_body : Cal P w K mg base CX0 3 "_is_body" ["steps"] (spIsBody K)) : FnOk P w K mg base CX0 4 f fd ["procedures"] (spChecked K) := by
  refine F.ok scChecked_bodies (fun vs H Q E h => ?_) (fun cdv A outer s H vs Q E hr h => ?_)
  · obtain ⟨a, ps, rs, rfl, _⟩ := h
    rfl
  · obtain ⟨a, ps, rs, rfl, ha, pr, few, ne, nd, ri, k⟩ := h
    have hr__is_body := hr
    have hr_is_name := hr.mono (by omega : 1 ≤ 3)
    have ln : ps.length = rs.length := Paired.length pr
    have hu : (A.deeper (PyProof.Rows.envOfC "_checked_bodies" (defScope sChecked_bodies) s.heap.objs.size f cdv)).units + 1 < cLine := by have := hr.units; omega
    refine ⟨_, (pss_cons (ps_set (i := 1) scChecked_bodies.nd rfl (by first | exact Or.inl rfl | exact Or.inr rfl) pe_dnewK)
      (pss_cons (ps_for PassesOwn.never rfl (pi_enumS (by rfl) mEnum (pa_cons (pv 0) pa_nil) (by decide) (by decide)) (pg_tup rfl (pgs_cons (pg_name (i := 2) scChecked_bodies.nd rfl (by first | exact Or.inl rfl | exact Or.inr rfl)) (pgs_cons (pg_tup rfl (pgs_cons (pg_name (i := 3) scChecked_bodies.nd rfl (by first | exact Or.inl rfl | exact Or.inr rfl)) (pgs_cons (pg_name (i := 4) scChecked_bodies.nd rfl (by first | exact Or.inl rfl | exact Or.inr rfl)) pgs_nil))) pgs_nil)))
        (pss_cons (ps_if (PW.pt (pw_or (pt_cmpR op_gt (pv 2) (pe_glob (v := .int 16) rfl mg_MOST_PROCEDURES ⟨_, rfl⟩) (nomark _)) (pw_or (pt_not (pt_val (pe_cal c_is_name hr_is_name pass0 (pa_cons (pv 3) pa_nil)))) (pw_or (pt_cmp (pc_din hu (pv 3) (pv 1))) (pw_or1 (pt_not (pt_val (pe_cal c__is_body hr__is_body pass0 (pa_cons (pv 4) pa_nil)))))))))
          (pss_one ps_never) pss_nil)
        (pss_one (ps_asg (pe_callTy (k_tuple K) (by rfl) mTuple (by decide +kernel) (pa_cons (pv 4) pa_nil)) (pg_sub (pv 1) (pv 3) (set_dict hu))))))
      (pss_cons (ps_if (pt_not (pt_truth (pv 1) (by intro _; rfl)))
        (pss_one ps_never) pss_nil)
      (pss_one (ps_ret (pv 1)))))), ?_⟩
    refine fun d hd => ?_
    have s0 := Same.new (o := .dK []) hd
    refine ⟨_, rfl, a, ps.map V.ref, rfl, ?_⟩
    rcases ha with ha | ha
    · refine .inl ⟨SameL s0 ha, ?_⟩
      refine for_it walk_enumSL (fun i σ H' => ∃ (us : List Addr) (vl vn vb : Option V), σ = [some (.ref a), some (.ref d), vl, vn, vb] ∧ us.length = i ∧ H' d = some (.dK (kvsOf (rs.take i) us)) ∧ BoA K H' us (rs.take i) ∧ Same H H') ⟨[], none, none, none, rfl, rfl, upd_same, .nil, s0⟩ (fun i σ H' _ q => SameL q.choose_spec.choose_spec.choose_spec.choose_spec.2.2.2.2 ha) ?_ ?_
      · rintro i x σ H1 H2 hi ⟨us, vl, vn, vb, rfl, lu, h1, bo, s1⟩ ⟨T, x1, y, rfl, hT, rfl, e1, e2⟩
        obtain rfl : x1 = .int (1 + (i : Nat)) := (Option.some.inj e1).symm
        have e2 : (ps.map V.ref)[i]? = some y := e2
        rw [List.getElem?_map] at e2
        obtain ⟨p, hp, rfl⟩ := Option.map_eq_some_iff.mp e2
        obtain ⟨r, hr2, pa⟩ := paired_get pr hp
        have rm : r ∈ rs := List.mem_of_getElem? hr2
        obtain ⟨nm, bb, ls⟩ := ri r rm
        have ir : i < rs.length := by rw [← ln]; simpa using hi
        have s2 := s1.trans (Same.new (o := .tup [.int (1 + (i : Nat)), .ref p]) hT)
        have p2 := pa.same s2
        have h2 := (Same.new (o := .tup [.int (1 + (i : Nat)), .ref p]) hT) _ _ h1
        have bo2 := bo.same (Same.new (o := .tup [.int (1 + (i : Nat)), .ref p]) hT)
        have lt : us.length = (rs.take i).length := by rw [lu, List.length_take]; omega
        refine ⟨T, _, rfl, .of upd_same, rfl, _, _, rfl, _, _, rfl, p, _, rfl, p2.1, rfl, _, _, rfl, _, _, rfl, rfl, rfl, ?_⟩
        refine ⟨_, rfl, _, _, rfl, rfl, _, rfl, ite2 (fun q => by have := of_decide_eq_true q; omega) fun _ => ?_⟩
        refine ⟨_, rfl, r.name, rfl, Nat.le_trans nm.len (by decide), fun H3 s3 => ⟨_, rfl, ?_⟩⟩
        show if (!nameB r.name) = true then _ else _
        rw [(nameB_iff _).mpr nm]
        refine iteF ?_
        have an : (kvsOf (rs.take i) us).any (fun kv => decide (kv.1 = Sum.inr r.name)) = false := by
          rw [kvsOf_any lt, decide_eq_false (fresh_name nd hr2)]
        refine ⟨_, rfl, _, rfl, d, none, rfl, .inl ⟨_, Sum.inr r.name, .inl (s3 _ _ h2), rfl, (no_val an).symm⟩, _, rfl, iteF ?_⟩
        have p3 := p2.same s3
        refine ⟨_, rfl, r.b, r.ts, r.ss, rfl, p3.2.1, p3.2.2, ls, fun H4 s4 => ⟨_, rfl, ?_⟩⟩
        show if (!bodyB r.ss) = true then _ else _
        rw [bb]
        refine iteF ?_
        have h4 := s4 _ _ (s3 _ _ h2)
        have bo4 := (bo2.same s3).same s4
        have p4 := p3.same s4
        have s5 := (s2.trans s3).trans s4
        have tk1 : rs.take (i + 1) = rs.take i ++ [r] := by rw [List.take_add_one, hr2]; rfl
        have kl : (kvsOf (rs.take i) us).length < sizeLine := by
          rw [kvsOf_len lt, List.length_take]
          exact Nat.lt_of_lt_of_le (by omega : _ < 17) (by decide)
        have pk : ∀ u : Addr, putK (kvsOf (rs.take i) us) (Sum.inr r.name) (V.ref u) = kvsOf (rs.take (i + 1)) (us ++ [u]) := fun u => by
          unfold putK
          rw [an, tk1, kvsOf_snoc r u lt]; rfl
        have d0 : H d = none := hd
        rcases p4.2.1 with hb | hb
        · refine ⟨_, rfl, r.b, _, rfl, .inl ⟨hb, fun u hu => ?_⟩⟩
          have h5 := (Same.new (o := .tup (r.ts.map V.ref)) hu) _ _ h4
          have bo5 := bo4.same (Same.new (o := .tup (r.ts.map V.ref)) hu)
          refine ⟨_, rfl, _, rfl, d, _, rfl, .inl ⟨_, Sum.inr r.name, h5, rfl, kl, rfl⟩, ?_⟩
          refine ⟨us ++ [u], _, _, _, rfl, by rw [List.length_append, lu]; rfl, by rw [upd_same, pk u], ?_, (s5.trans (Same.new hu)).mut d0⟩
          rw [tk1]
          exact paired_snoc (bo5.put h5) (SqT_put h5 (.of upd_same))
        · refine ⟨_, rfl, r.b, _, rfl, .inr ⟨hb, ?_⟩⟩
          refine ⟨_, rfl, _, rfl, d, _, rfl, .inl ⟨_, Sum.inr r.name, h4, rfl, kl, rfl⟩, ?_⟩
          refine ⟨us ++ [r.b], _, _, _, rfl, by rw [List.length_append, lu]; rfl, by rw [upd_same, pk r.b], ?_, s5.mut d0⟩
          rw [tk1]
          exact paired_snoc (bo4.put h4) (SqT_put h4 hb)
      · rintro σ H1 ⟨us, vl, vn, vb, rfl, lu, h1, bo, s1⟩
        rw [List.length_map, ln, List.take_of_length_le (Nat.le_refl _)] at h1 bo
        have lu : us.length = rs.length := by rw [lu, List.length_map, ln]
        refine ⟨_, rfl, _, .inr (.inr ⟨_, h1, rfl⟩), ?_⟩
        have em : (kvsOf rs us).isEmpty = false := by
          cases hk : kvsOf rs us with
          | nil =>
            have q := kvsOf_len lu
            rw [hk] at q
            exact absurd (List.length_eq_zero_iff.mp q.symm) ne
          | cons _ _ => rfl
        rw [em]
        refine iteF ?_
        exact ⟨_, rfl, k d us H1 h1 bo s1⟩
    · refine .inr ⟨s0.tup ha, ?_⟩
      refine for_it walk_enumST (fun i σ H' => ∃ (us : List Addr) (vl vn vb : Option V), σ = [some (.ref a), some (.ref d), vl, vn, vb] ∧ us.length = i ∧ H' d = some (.dK (kvsOf (rs.take i) us)) ∧ BoA K H' us (rs.take i) ∧ Same H H') ⟨[], none, none, none, rfl, rfl, upd_same, .nil, s0⟩ (fun i σ H' _ q => q.choose_spec.choose_spec.choose_spec.choose_spec.2.2.2.2.tup ha) ?_ ?_
      · rintro i x σ H1 H2 hi ⟨us, vl, vn, vb, rfl, lu, h1, bo, s1⟩ ⟨T, x1, y, rfl, hT, rfl, e1, e2⟩
        obtain rfl : x1 = .int (1 + (i : Nat)) := (Option.some.inj e1).symm
        have e2 : (ps.map V.ref)[i]? = some y := e2
        rw [List.getElem?_map] at e2
        obtain ⟨p, hp, rfl⟩ := Option.map_eq_some_iff.mp e2
        obtain ⟨r, hr2, pa⟩ := paired_get pr hp
        have rm : r ∈ rs := List.mem_of_getElem? hr2
        obtain ⟨nm, bb, ls⟩ := ri r rm
        have ir : i < rs.length := by rw [← ln]; simpa using hi
        have s2 := s1.trans (Same.new (o := .tup [.int (1 + (i : Nat)), .ref p]) hT)
        have p2 := pa.same s2
        have h2 := (Same.new (o := .tup [.int (1 + (i : Nat)), .ref p]) hT) _ _ h1
        have bo2 := bo.same (Same.new (o := .tup [.int (1 + (i : Nat)), .ref p]) hT)
        have lt : us.length = (rs.take i).length := by rw [lu, List.length_take]; omega
        refine ⟨T, _, rfl, .of upd_same, rfl, _, _, rfl, _, _, rfl, p, _, rfl, p2.1, rfl, _, _, rfl, _, _, rfl, rfl, rfl, ?_⟩
        refine ⟨_, rfl, _, _, rfl, rfl, _, rfl, ite2 (fun q => by have := of_decide_eq_true q; omega) fun _ => ?_⟩
        refine ⟨_, rfl, r.name, rfl, Nat.le_trans nm.len (by decide), fun H3 s3 => ⟨_, rfl, ?_⟩⟩
        show if (!nameB r.name) = true then _ else _
        rw [(nameB_iff _).mpr nm]
        refine iteF ?_
        have an : (kvsOf (rs.take i) us).any (fun kv => decide (kv.1 = Sum.inr r.name)) = false := by
          rw [kvsOf_any lt, decide_eq_false (fresh_name nd hr2)]
        refine ⟨_, rfl, _, rfl, d, none, rfl, .inl ⟨_, Sum.inr r.name, .inl (s3 _ _ h2), rfl, (no_val an).symm⟩, _, rfl, iteF ?_⟩
        have p3 := p2.same s3
        refine ⟨_, rfl, r.b, r.ts, r.ss, rfl, p3.2.1, p3.2.2, ls, fun H4 s4 => ⟨_, rfl, ?_⟩⟩
        show if (!bodyB r.ss) = true then _ else _
        rw [bb]
        refine iteF ?_
        have h4 := s4 _ _ (s3 _ _ h2)
        have bo4 := (bo2.same s3).same s4
        have p4 := p3.same s4
        have s5 := (s2.trans s3).trans s4
        have tk1 : rs.take (i + 1) = rs.take i ++ [r] := by rw [List.take_add_one, hr2]; rfl
        have kl : (kvsOf (rs.take i) us).length < sizeLine := by
          rw [kvsOf_len lt, List.length_take]
          exact Nat.lt_of_lt_of_le (by omega : _ < 17) (by decide)
        have pk : ∀ u : Addr, putK (kvsOf (rs.take i) us) (Sum.inr r.name) (V.ref u) = kvsOf (rs.take (i + 1)) (us ++ [u]) := fun u => by
          unfold putK
          rw [an, tk1, kvsOf_snoc r u lt]; rfl
        have d0 : H d = none := hd
        rcases p4.2.1 with hb | hb
        · refine ⟨_, rfl, r.b, _, rfl, .inl ⟨hb, fun u hu => ?_⟩⟩
          have h5 := (Same.new (o := .tup (r.ts.map V.ref)) hu) _ _ h4
          have bo5 := bo4.same (Same.new (o := .tup (r.ts.map V.ref)) hu)
          refine ⟨_, rfl, _, rfl, d, _, rfl, .inl ⟨_, Sum.inr r.name, h5, rfl, kl, rfl⟩, ?_⟩
          refine ⟨us ++ [u], _, _, _, rfl, by rw [List.length_append, lu]; rfl, by rw [upd_same, pk u], ?_, (s5.trans (Same.new hu)).mut d0⟩
          rw [tk1]
          exact paired_snoc (bo5.put h5) (SqT_put h5 (.of upd_same))
        · refine ⟨_, rfl, r.b, _, rfl, .inr ⟨hb, ?_⟩⟩
          refine ⟨_, rfl, _, rfl, d, _, rfl, .inl ⟨_, Sum.inr r.name, h4, rfl, kl, rfl⟩, ?_⟩
          refine ⟨us ++ [r.b], _, _, _, rfl, by rw [List.length_append, lu]; rfl, by rw [upd_same, pk r.b], ?_, s5.mut d0⟩
          rw [tk1]
          exact paired_snoc (bo4.put h4) (SqT_put h4 hb)
      · rintro σ H1 ⟨us, vl, vn, vb, rfl, lu, h1, bo, s1⟩
        rw [List.length_map, ln, List.take_of_length_le (Nat.le_refl _)] at h1 bo
        have lu : us.length = rs.length := by rw [lu, List.length_map, ln]
        refine ⟨_, rfl, _, .inr (.inr ⟨_, h1, rfl⟩), ?_⟩
        have em : (kvsOf rs us).isEmpty = false := by
          cases hk : kvsOf rs us with
          | nil =>
            have q := kvsOf_len lu
            rw [hk] at q
            exact absurd (List.length_eq_zero_iff.mp q.symm) ne
          | cons _ _ => rfl
        rw [em]
        refine iteF ?_
        exact ⟨_, rfl, k d us H1 h1 bo s1⟩
end
end Mf
namespace Mf
open PySem L2
section
variable {P : Program} {w : World} {K : PySem.W.Frag} {mg : Str → Option Value} {base : Heap}

/-! ### _check_callees, of bodies that are right -/
def calling : List Str := ["call", "try"]
def Called (rs : List Pr) : Prop := ∀ r ∈ rs, ∀ s ∈ r.ss, s.1 ∈ calling → s.2 ∈ rs.map Pr.name
def spCallees (K : PySem.W.Frag) : Sp := fun vs H Q _ => ∃ (d : Addr) (us : List Addr) (rs : List Pr), vs = [.ref d] ∧ H d = some (.dK (kvsOf rs us)) ∧ BoA K H us rs ∧ (∀ r ∈ rs, StA H r.ts r.ss) ∧ Called rs ∧ ∀ H', Same H H' → Q .non H'
theorem kvsOf_get : ∀ {rs : List Pr} {us : List Addr} {i : Nat} {k : Key} {x : V}, (kvsOf rs us)[i]? = some (k, x) → ∃ r u, rs[i]? = some r ∧ us[i]? = some u ∧ k = Sum.inr r.name ∧ x = .ref u
  | r :: rs, u :: us, 0, k, x, h => by
    cases h
    exact ⟨r, u, rfl, rfl, rfl, rfl⟩
  | r :: rs, u :: us, i + 1, k, x, h => kvsOf_get (rs := rs) (us := us) (i := i) h
  | [], us, i, k, x, h => by simp [kvsOf] at h
  | r :: rs, [], i, k, x, h => by simp [kvsOf] at h
theorem some_val {kvs : List (Key × V)} {k : Key} (h : kvs.any (fun kv => decide (kv.1 = k)) = true) : ∃ v, valV kvs k = some v := by
  obtain ⟨x, hx, hk⟩ := List.any_eq_true.mp h
  unfold valV
  cases e : kvs.find? fun kv => decide (kv.1 = k) with
  | none => exact absurd hk (List.find?_eq_none.mp e x hx)
  | some y => exact ⟨y.2, rfl⟩
abbrev sCheck_callees : Stmt := top 19
theorem scCheck_callees : FnScope ["bodies", "line", "body", "kind", "name"] ["bodies"] (defScope sCheck_callees) := ⟨rfl, rfl, rfl, by decide +kernel, rfl, by decide +kernel, by decide +kernel⟩
theorem ok_callees {f aC : Addr} {fd : FuncData} (F : Fun K "_check_callees" "_check_callees" sCheck_callees f fd) (mEnum : mg "enumerate" = none) (mg_CALLING_KINDS : mg "CALLING_KINDS" = some (.ref aC)) (qC : ∀ H, SqT K H aC (calling.map V.str)) : FnOk P w K mg base CX0 1 f fd ["bodies"] (spCallees K) := by
  refine F.ok scCheck_callees (fun vs H Q E h => ?_) (fun cdv A outer s H vs Q E hr h => ?_)
  · obtain ⟨d, us, rs, rfl, _⟩ := h
    rfl
  · obtain ⟨d, us, rs, rfl, hd, bo, st, ca, k⟩ := h
    have hu : (A.deeper (PyProof.Rows.envOfC "_check_callees" (defScope sCheck_callees) s.heap.objs.size f cdv)).units + 1 < cLine := by have := hr.units; omega
    refine ⟨_, (pss_one (ps_lock (ps_for PassesOwn.never rfl (pi_enumV (by rfl) mEnum (pv 0) (by decide) (by decide)) (pg_tup rfl (pgs_cons (pg_name (i := 1) scCheck_callees.nd rfl (by first | exact Or.inl rfl | exact Or.inr rfl)) (pgs_cons (pg_name (i := 2) scCheck_callees.nd rfl (by first | exact Or.inl rfl | exact Or.inr rfl)) pgs_nil)))
        (pss_one (ps_for PassesOwn.never rfl (pi_tup (pv 2)) (pg_tup rfl (pgs_cons (pg_name (i := 3) scCheck_callees.nd rfl (by first | exact Or.inl rfl | exact Or.inr rfl)) (pgs_cons (pg_name (i := 4) scCheck_callees.nd rfl (by first | exact Or.inl rfl | exact Or.inr rfl)) pgs_nil)))
          (pss_one (ps_if (PW.pt (pw_and (pt_cmpR (oin K) (pv 3) (pe_glob (v := .ref _) rfl mg_CALLING_KINDS rfl) (by rfl)) (pw_and1 (pt_cmp (pc_dnotin hu (pv 4) (pv 0))))))
            (pss_one ps_never) pss_nil))))))), ?_⟩
    refine ⟨d, _, hd, trivial, fun od => ?_⟩
    have lt : us.length = rs.length := Paired.length bo
    have bf : BoA K (upd H d (.frz od (.dK (kvsOf rs us)))) us rs := bo.put hd
    refine ⟨_, rfl, d, od, _, rfl, upd_same, ?_⟩
    refine for_it walk_enumV (fun i σ H' => ∃ (v1 v2 v3 v4 : Option V), σ = [some (.ref d), v1, v2, v3, v4] ∧ Same (upd H d (.frz od (.dK (kvsOf rs us)))) H') ⟨none, none, none, none, rfl, Same.refl _⟩ (fun i σ H' _ q => q.choose_spec.choose_spec.choose_spec.choose_spec.2 _ _ upd_same) ?_ ?_
    · rintro i x σ H1 H2 hi ⟨v1, v2, v3, v4, rfl, s1⟩ ⟨T, y, ky, rfl, hT, rfl, hx⟩
      obtain ⟨r, u, hr1, hu1, rfl, rfl⟩ := kvsOf_get hx
      obtain ⟨r', hr2, sq⟩ := paired_get bf hu1
      rw [hr1] at hr2
      cases hr2
      have rm : r ∈ rs := List.mem_of_getElem? hr1
      have s2 := s1.trans (Same.new (o := .tup [.int (1 + (i : Nat)), .ref u]) hT)
      refine ⟨T, _, rfl, .of upd_same, rfl, _, _, rfl, _, _, rfl, rfl, ?_⟩
      refine ⟨_, rfl, u, rfl, ⟨_, s2.tup sq⟩, ?_⟩
      refine for_it walk_tup (fun j σ H' => ∃ (v3 v4 : Option V), σ = [some (.ref d), some (.int (1 + (i : Nat))), some (.ref u), v3, v4] ∧ Same (upd H d (.frz od (.dK (kvsOf rs us)))) H') ⟨v3, v4, rfl, s2⟩ (fun j σ H' _ q => q.choose_spec.choose_spec.2.tup sq) ?_ ?_
      · rintro j x σ H3 H4 hj ⟨w3, w4, rfl, s3⟩ ⟨rfl, hx⟩
        rw [List.getElem?_map] at hx
        obtain ⟨t, ht, rfl⟩ := Option.map_eq_some_iff.mp hx
        obtain ⟨sp, hsp, hts⟩ := (st r rm).get ht
        have hts : (upd H d (.frz od (.dK (kvsOf rs us)))) t = some (.tup [.str sp.1, .str sp.2]) := by
          rw [upd_ne (fun e => by rw [e, hd] at hts; simp at hts)]; exact hts
        refine ⟨t, _, rfl, .of (s3 _ _ hts), rfl, _, _, rfl, _, _, rfl, rfl, ?_⟩
        refine ⟨_, rfl, aC, _, rfl, .inr (qC _), rfl, flat_strs calling, _, rfl, ?_⟩
        show if inV (.str sp.1) (calling.map V.str) = true then _ else _
        rw [inV_str]
        refine ite2 (fun q => ?_) fun q => ?_
        · have mm := ca r rm sp (StA.mem hsp) (of_decide_eq_true q)
          obtain ⟨v, hv⟩ := some_val (kvs := kvsOf rs us) (k := Sum.inr sp.2) (by rw [kvsOf_any lt]; exact decide_eq_true mm)
          refine ⟨_, rfl, _, rfl, d, some v, rfl, .inl ⟨_, Sum.inr sp.2, .inr ⟨od, s3 _ _ upd_same⟩, rfl, hv.symm⟩, _, rfl, iteF ?_⟩
          exact ⟨_, _, rfl, s3⟩
        · exact ⟨_, _, rfl, s3⟩
      · rintro σ H3 ⟨w3, w4, rfl, s3⟩
        exact ⟨_, _, w3, w4, rfl, s3⟩
    · rintro σ H1 ⟨v1, v2, v3, v4, rfl, s1⟩
      refine ⟨s1 _ _ upd_same, k _ fun b o hb => ?_⟩
      by_cases e : b = d
      · subst e
        rw [hd] at hb
        cases hb
        exact upd_same
      · rw [upd_ne e]
        refine s1 _ _ ?_
        rw [upd_ne e]; exact hb
end
end Mf
namespace Mf
open PySem L2
/-! ### the class NameSet -/
def flM (t : Addr) : List (Str × V) := putF "members" (.ref t) []
theorem flM_get (t : Addr) : (flM t).lookup ("members" : Str) = some (.ref t) := by
  unfold flM
  rw [lookup_putF, if_pos rfl]
/-- a NameSet stands at p, its members ms -/
def NSet (C : Addr) (H : Hp) (p : Addr) (ms : List Str) : Prop := ∃ dx t, H p = some (.ins C dx (flM t)) ∧ H t = some (.tup (ms.map V.str)) ∧ Up ms ∧ ms.length < 4000 ∧ ∀ z ∈ ms, PyData.strOk z = true
theorem NSet.same {C : Addr} {H H' : Hp} {p : Addr} {ms : List Str} (h : NSet C H p ms) (s : Same H H') : NSet C H' p ms := let ⟨dx, t, a, b, c⟩ := h; ⟨dx, t, s _ _ a, s _ _ b, c⟩
theorem NSet.kp {C a : Addr} {H H' : Hp} {p : Addr} {ms : List Str} {n : Nat} (h : NSet C H p ms) (s : Kp a H H') (S : Src H a n) : NSet C H' p ms :=
  let ⟨dx, t, x, y, c⟩ := h
  let ⟨_, _, _, e, _⟩ := S
  ⟨dx, t, s _ _ (ne_of x e (by intro z; cases z)) x, s _ _ (ne_of y e (by intro z; cases z)) y, c⟩
structure NsC (K : PySem.W.Frag) (mg : Str → Option Value) (C : Addr) : Prop where
  ins : C8.InsC K C
  nM : NoAttr K C "members"
  mgC : mg "NameSet" = some (.ref C)
  kL : PySem.W.kitOne K (.type "list") (.ref C) = some false
  kT : PySem.W.kitOne K (.type "tuple") (.ref C) = some false
  bT : PySem.W.notFirst K C (.type "tuple") = true
  bL : PySem.W.notFirst K C (.type "list") = true
  mIsi : mg "isinstance" = none
  mTuple : mg "tuple" = none
  mSorted : mg "sorted" = none
  mSet : mg "set" = none
  mAll : mg "all" = none
  mLen : mg "len" = none
/-- what NameSet(..) takes -/
inductive ArgS (K : PySem.W.Frag) (C : Addr) (H : Hp) : V → List Str → Prop
  | lst {a : Addr} {xs : List Str} (e : H a = some (.lst (xs.map V.str))) : ArgS K C H (.ref a) xs
  | tup {a : Addr} {xs : List Str} (e : H a = some (.tup (xs.map V.str))) : ArgS K C H (.ref a) xs
  | emp {a : Addr} {o : Obj} (e : K.lookup a = some o) (c : o.cls = .type "tuple") (s : ∀ H, SqT K H a []) : ArgS K C H (.ref a) []
  | own {a : Addr} {xs : List Str} (e : NSet C H a xs) : ArgS K C H (.ref a) xs
section
variable {P : Program} {w : World} {K : PySem.W.Frag} {mg : Str → Option Value} {base : Heap} {C : Addr}
theorem NsC.isi {H : Hp} {p : Addr} {dx : Addr} {fs : List (Str × V)} (T : NsC K mg C) (h : H p = some (.ins C dx fs)) : TyX K H (.ref p) (.ref C) := .base (.ins h T.ins.cl T.ins.ha T.ins.hn T.ins.htk T.ins.hm)

def spNsInit (K : PySem.W.Frag) (C : Addr) : Sp := fun vs H Q _ => ∃ (p dx : Addr) (x : V) (xs : List Str), vs = [.ref p, x] ∧ H p = some (.ins C dx []) ∧ ArgS K C H x xs ∧ xs.length < 4000 ∧
  ∀ t ms H', Up ms → (∀ z, z ∈ ms ↔ z ∈ xs) → H' p = some (.ins C dx (flM t)) → H' t = some (.tup (ms.map V.str)) → (∀ b o, b ≠ p → H b = some o → H' b = some o) → Q .non H'
abbrev sNameSetInit : Stmt := inClass (top 6) 0
theorem scNameSetInit : FnScope ["self", "names"] ["self", "names"] (defScope sNameSetInit) := ⟨rfl, rfl, rfl, by decide +kernel, rfl, by decide +kernel, by decide +kernel⟩
theorem ok_nsInit {f : Addr} {fd : FuncData} {dvs : List V} {kws : List (Str × V)} {ar : Arguments} (F : FunD K "__init__" "NameSet.__init__" ar (defBody sNameSetInit) (defScope sNameSetInit) dvs kws f fd) (T : NsC K mg C) : FnOk P w K mg base CX0 1 f fd ["self", "names"] (spNsInit K C) := by
  refine F.ok scNameSetInit (fun vs H Q E h => ?_) (fun cdv A outer s H vs Q E hr h => ?_)
  · obtain ⟨p, dx, x, xs, rfl, _⟩ := h
    rfl
  · obtain ⟨p, dx, x, xs, rfl, hp, ax, few, k⟩ := h
    have mIsi := T.mIsi; have mg_NameSet := T.mgC; have mTuple := T.mTuple; have mSorted := T.mSorted; have mSet := T.mSet
    refine ⟨_, (C8.pss_cut (ps_if (pt_val (pe_callB (k_isi K) (by rfl) mIsi (by decide +kernel) (pa_cons (pv 1) (pa_cons (pe_glob (v := .ref _) rfl mg_NameSet rfl) pa_nil))))
        (pss_one (ps_set (i := 1) scNameSetInit.nd rfl (by first | exact Or.inl rfl | exact Or.inr rfl) (fldK K (pv 1)))) pss_nil)
      (pss_one (ps_fld (pv 0) (pe_callTy (k_tuple K) (by rfl) mTuple (by decide +kernel) (pa_cons (pe_callB (cr_sortedX rfl) (by rfl) mSorted (by decide +kernel) (pa_cons (pe_callTy (cr_setS rfl) (by rfl) mSet (by decide +kernel) (pa_cons (pv 1) pa_nil)) pa_nil)) pa_nil)) rfl))), ?_⟩
    refine ⟨fun σ' H' => H' = H ∧ ∃ c, σ' = [some (.ref p), some (.ref c)] ∧ (SqL K H c (xs.map V.str) ∨ SqT K H c (xs.map V.str)), ?_, ?_⟩
    · cases ax with
      | lst e => exact ⟨_, rfl, _, _, _, _, false, rfl, .own C, .base (.lst e), T.kL, _, rfl, iteF ⟨rfl, _, rfl, .inl (.of e)⟩⟩
      | tup e => exact ⟨_, rfl, _, _, _, _, false, rfl, .own C, .base (.tup e), T.kT, _, rfl, iteF ⟨rfl, _, rfl, .inr (.of e)⟩⟩
      | emp e c s => exact ⟨_, rfl, _, _, _, _, false, rfl, .own C, .kTuple e c, T.kT, _, rfl, iteF ⟨rfl, _, rfl, .inr (s H)⟩⟩
      | own e =>
        obtain ⟨dy, t, h1, h2, _⟩ := e
        exact ⟨_, rfl, _, _, _, _, true, rfl, .own C, T.isi h1, T.ins.me, _, rfl, iteT ⟨_, rfl, _, C, dy, _, _, rfl, h1, T.ins.cl, T.nM, flM_get t, rfl, t, rfl, .inr (.of h2)⟩⟩
    · rintro σ' H' ⟨rfl, c, rfl, hc⟩
      refine ⟨_, rfl, c, xs, rfl, hc, few, fun q l nq nd m => ?_⟩
      refine ⟨q, l, rfl, upd_same, fun ys r so m2 len nr => ?_⟩
      refine ⟨r, _, rfl, .inl ⟨.of upd_same, fun t nt => ?_⟩⟩
      have up : Up ys := up_of so (nodup_len nd (fun z hz => (m2 z).mpr hz) len)
      have h1 : Same H' (upd (upd (upd H' q (.ext fun h => TxR P w h q l)) r (.lst (ys.map V.str))) t (.tup (ys.map V.str))) := ((Same.new nq).trans (Same.new nr)).trans (Same.new nt)
      have ht : t ≠ p := ne_none nt ((Same.new nr) _ _ ((Same.new nq) _ _ hp))
      refine ⟨_, rfl, p, C, dx, [], rfl, h1 _ _ hp, T.ins.cl, T.nM, (by show 0 < 1000; decide), ?_⟩
      refine k t ys _ up (fun z => (m2 z).trans (m z)) upd_same (by rw [upd_ne ht, upd_same]) fun b o nb e => ?_
      rw [upd_ne nb]
      exact h1 _ _ e
theorem ArgS.same {H H' : Hp} {x : V} {xs : List Str} (h : ArgS K C H x xs) (s : Same H H') : ArgS K C H' x xs := by
  cases h with
  | lst e => exact .lst (s _ _ e)
  | tup e => exact .tup (s _ _ e)
  | emp e c q => exact .emp e c q
  | own e => exact .own (e.same s)
/-- NameSet(x): a new one -/
theorem make_ns {H : Hp} {x : V} {xs : List Str} {Q : VK} {E : XK} (ax : ArgS K C H x xs) (few : xs.length < 4000) (ok : ∀ z ∈ xs, PyData.strOk z = true)
    (k : ∀ p ms H', NSet C H' p ms → (∀ z, z ∈ ms ↔ z ∈ xs) → H p = none → Same H H' → Q (.ref p) H') :
    ∀ p dx, H p = none → H dx = none → dx ≠ p → spNsInit K C [.ref p, x] (upd (upd H dx (.own p)) p (.ins C dx [])) (fun v H2 => v = .non ∧ Q (.ref p) H2) E := by
  intro p dx hp hd ne
  have s1 : Same H (upd (upd H dx (.own p)) p (.ins C dx [])) := Same.mut (Same.new hd) hp
  refine ⟨p, dx, x, xs, rfl, upd_same, ax.same s1, few, fun t ms H' up m h1 h2 kp => ⟨rfl, k p ms H' ⟨dx, t, h1, h2, up, ?_, fun z hz => ok z ((m z).mp hz)⟩ m hp fun b o e => kp b o (ne_of_none e hp) (s1 _ _ e)⟩⟩
  exact Nat.lt_of_le_of_lt (nodup_le up.nd fun z hz => (m z).mp hz) few
theorem ns_grow {H : Hp} {p dx : Addr} (hp : H p = none) (hd : H dx = none) : Same H (upd (upd H dx (.own p)) p (.ins C dx [])) := Same.mut (Same.new hd) hp
theorem ns_after {H H' : Hp} {p dx t : Addr} {xs ms : List Str} (few : xs.length < 4000) (ok : ∀ z ∈ xs, PyData.strOk z = true) (hp : H p = none) (hd : H dx = none) (up : Up ms) (m : ∀ z, z ∈ ms ↔ z ∈ xs)
    (h1 : H' p = some (.ins C dx (flM t))) (h2 : H' t = some (.tup (ms.map V.str))) (kp : ∀ b o, b ≠ p → (upd (upd H dx (.own p)) p (.ins C dx [])) b = some o → H' b = some o) : NSet C H' p ms ∧ Same H H' :=
  ⟨⟨dx, t, h1, h2, up, Nat.lt_of_le_of_lt (nodup_le up.nd fun z hz => (m z).mp hz) few, fun z hz => ok z ((m z).mp hz)⟩, fun b o e => kp b o (ne_of_none e hp) ((ns_grow hp hd) b o e)⟩
end
end Mf
namespace Mf
open PySem L2
section
variable {P : Program} {w : World} {K : PySem.W.Frag} {mg : Str → Option Value} {base : Heap} {C : Addr}
/-! ### _places -/
abbrev CalN (P : Program) (w : World) (K : PySem.W.Frag) (mg : Str → Option Value) (base : Heap) (C : Addr) (dvs : List V) : Prop := CalC P w K mg base CX0 1 "NameSet" C ["self", "names"] (spNsInit K C) dvs
/-- the places that steps read, in order, as often as they are read -/
def readsIn (ss : List Step) : List Str := (ss.filter fun s => decide (s.1 = ("read" : Str))).map (·.2)
def readsOf (rs : List Pr) : List Str := (rs.map fun r => readsIn r.ss).flatten
theorem readsOf_snoc {rs : List Pr} {r : Pr} : readsOf (rs ++ [r]) = readsOf rs ++ readsIn r.ss := by unfold readsOf; simp
theorem readsIn_snoc {ss : List Step} {s : Step} : readsIn (ss ++ [s]) = readsIn ss ++ (if s.1 = ("read" : Str) then [s.2] else []) := by
  unfold readsIn
  by_cases e : s.1 = ("read" : Str) <;> simp [List.filter_append, e]
theorem readsIn_len (ss : List Step) : (readsIn ss).length ≤ ss.length := by
  unfold readsIn
  rw [List.length_map]
  exact List.length_filter_le _ _
theorem readsOf_len {rs : List Pr} (h : ∀ r ∈ rs, r.ss.length ≤ 12) : (readsOf rs).length ≤ rs.length * 12 := by
  induction rs with
  | nil => exact Nat.zero_le _
  | cons r rs ih =>
    have a := ih fun x hx => h x (List.mem_cons_of_mem _ hx)
    have b := h r List.mem_cons_self
    have c := readsIn_len r.ss
    show (readsIn r.ss ++ readsOf rs).length ≤ _
    rw [List.length_append, List.length_cons]
    omega
theorem bodyB_len {ss : List Step} (h : bodyB ss = true) : ss.length ≤ 12 := of_decide_eq_true (Bool.and_eq_true_iff.mp h).1
theorem bodyB_st {ss : List Step} (h : bodyB ss = true) : ∀ s ∈ ss, stepB s.1 s.2 = true := List.all_eq_true.mp (Bool.and_eq_true_iff.mp h).2
theorem stepB_name {s : Step} (h : stepB s.1 s.2 = true) : IsName s.2 := (nameB_iff _).mp (Bool.and_eq_true_iff.mp h).2
theorem stepB_kind {s : Step} (h : stepB s.1 s.2 = true) : s.1 ∈ kinds := of_decide_eq_true (Bool.and_eq_true_iff.mp h).1
theorem kinds_ok : ∀ z ∈ kinds, PyData.strOk z = true := by decide +kernel
theorem stepB_ok {s : Step} (h : stepB s.1 s.2 = true) : StOk s := ⟨kinds_ok _ (stepB_kind h), (stepB_name h).ok⟩
theorem readsOf_ok {rs : List Pr} (h : ∀ r ∈ rs, Right r) : ∀ z ∈ readsOf rs, IsName z := fun z hz => by
  obtain ⟨l, hl, hz⟩ := List.mem_flatten.mp hz
  obtain ⟨r, hr, rfl⟩ := List.mem_map.mp hl
  obtain ⟨s, hs, rfl⟩ := List.mem_map.mp hz
  exact stepB_name (bodyB_st (h r hr).2.1 s (List.mem_filter.mp hs).1)
def spPlaces (K : PySem.W.Frag) : Sp := fun vs H Q _ => ∃ (d : Addr) (us : List Addr) (rs : List Pr), vs = [.ref d] ∧ H d = some (.dK (kvsOf rs us)) ∧ BoA K H us rs ∧ (∀ r ∈ rs, StA H r.ts r.ss) ∧ rs.length ≤ 16 ∧ (∀ r ∈ rs, Right r) ∧
  ∀ t pl H', Up pl → (∀ z, z ∈ pl ↔ z ∈ readsOf rs) → H' t = some (.tup (pl.map V.str)) → Same H H' → Q (.ref t) H'
abbrev sPlaces : Stmt := top 20
theorem scPlaces : FnScope ["bodies", "body", "kind", "name"] ["bodies"] (defScope sPlaces) := ⟨rfl, rfl, rfl, by decide +kernel, rfl, by decide +kernel, by decide +kernel⟩
theorem ok_places {f : Addr} {fd : FuncData} (F : Fun K "_places" "_places" sPlaces f fd) (T : NsC K mg C) (mk1 : CalN P w K mg base C []) : FnOk P w K mg base CX0 3 f fd ["bodies"] (spPlaces K) := by
  refine F.ok scPlaces (fun vs H Q E h => ?_) (fun cdv A outer s H vs Q E hr h => ?_)
  · obtain ⟨d, us, rs, rfl, _⟩ := h
    rfl
  · obtain ⟨d, us, rs, rfl, hd, bo, st, few, ri, k⟩ := h
    refine ⟨_, (pss_one (ps_ret (fldK K (pe_mkc mk1 hr pass0 (pa_cons (pe_lock (pe_lc2 (own := [("body", 1), ("kind", 2), ("name", 3)]) (vs1 := [2, 3]) (g := (gName 1)) (g1 := (gTup K 2 (gCons (gName 2) (gCons (gName 3) gNil)))) (tt := tYes) (tt1 := _) rfl scPlaces.nd (pi_values (pv 0)) (blkOk_by (own := [("body", 1), ("kind", 2), ("name", 3)]) (N := ["bodies", "body", "kind", "name"]) (sc := defScope sPlaces) (by decide +kernel)) (by decide) (fun _ _ _ _ _ => (pg_name (i := 1) scPlaces.nd rfl (by first | exact Or.inl rfl | exact Or.inr rfl))) (fun _ _ _ _ _ => pts_nil) (fun _ _ _ _ _ => (piT K (pv 1))) (fun _ _ _ _ _ => (pg_tup rfl (pgs_cons (pg_name (i := 2) scPlaces.nd rfl (by first | exact Or.inl rfl | exact Or.inr rfl)) (pgs_cons (pg_name (i := 3) scPlaces.nd rfl (by first | exact Or.inl rfl | exact Or.inr rfl)) pgs_nil)))) (fun _ _ _ _ _ => pts_one (pt_cmpR op_eq (pv 2) pe_str (nomark _))) (fun _ _ _ _ _ => (pv 3)))) pa_nil))))), ?_⟩
    refine ⟨d, _, hd, trivial, fun od => ?_⟩
    have lt : us.length = rs.length := Paired.length bo
    have bf : BoA K (upd H d (.frz od (.dK (kvsOf rs us)))) us rs := bo.put hd
    have l12 : ∀ r ∈ rs, r.ss.length ≤ 12 := fun r hr => bodyB_len (ri r hr).2.1
    have fewR : ∀ l : List Pr, (∀ r ∈ l, r ∈ rs) → l.length ≤ 16 → (readsOf l).length ≤ 192 := fun l h h2 => by
      have := readsOf_len (rs := l) fun r hr => l12 r (h r hr)
      omega
    refine ⟨_, rfl, d, od, _, rfl, upd_same, fun D hD => ?_⟩
    refine it_any walk_values (fun i H' => Same (upd H d (.frz od (.dK (kvsOf rs us)))) H' ∧ H' D = some (.lst ((readsOf (rs.take i)).map V.str))) ⟨Same.new hD, upd_same⟩ (fun i H' _ q => q.1 _ _ upd_same) ?_ ?_
    · rintro i x H1 _ hi ⟨s1, h1⟩ ⟨rfl, ky, hx⟩
      obtain ⟨r, u, hr1, hu1, rfl, rfl⟩ := kvsOf_get hx
      obtain ⟨r', hr2, sq⟩ := paired_get bf hu1
      rw [hr1] at hr2
      cases hr2
      have rm : r ∈ rs := List.mem_of_getElem? hr1
      have ir : i < rs.length := by rw [kvsOf_len lt] at hi; exact hi
      have tk : rs.take (i + 1) = rs.take i ++ [r] := by rw [List.take_add_one, hr1]; rfl
      refine ⟨rfl, yes_then ?_⟩
      refine ⟨_, rfl, u, rfl, ⟨_, s1.tup sq⟩, ?_⟩
      have ln : r.ts.length = r.ss.length := Paired.length (st r rm)
      refine it_any walk_tup (fun j H' => Same (upd H d (.frz od (.dK (kvsOf rs us)))) H' ∧ H' D = some (.lst ((readsOf (rs.take i) ++ readsIn (r.ss.take j)).map V.str))) ⟨s1, by rw [h1]; simp [readsIn]⟩ (fun j H' _ q => q.1.tup sq) ?_ ?_
      · rintro j x H3 _ hj ⟨s3, h3⟩ ⟨rfl, hx⟩
        rw [List.getElem?_map] at hx
        obtain ⟨t, ht, rfl⟩ := Option.map_eq_some_iff.mp hx
        obtain ⟨sp, hsp, hts⟩ := (st r rm).get ht
        have hts : (upd H d (.frz od (.dK (kvsOf rs us)))) t = some (.tup [.str sp.1, .str sp.2]) := by
          rw [upd_ne (fun e => by rw [e, hd] at hts; simp at hts)]; exact hts
        have tk1 : r.ss.take (j + 1) = r.ss.take j ++ [sp] := by rw [List.take_add_one, hsp]; rfl
        refine ⟨t, _, rfl, .of (s3 _ _ hts), rfl, _, _, rfl, _, _, rfl, rfl, rfl, _, rfl, rfl, _, rfl, ite2 (fun q => ?_) fun q => ?_⟩
        · have q : sp.1 = ("read" : Str) := by have := of_decide_eq_true q; exact V.str.inj this
          refine ⟨_, rfl, _, h3, ?_, s3.mut hD, ?_⟩
          · rw [List.length_map, List.length_append]
            have a := fewR (rs.take i) (fun r hr => List.mem_of_mem_take hr) (by rw [List.length_take]; omega)
            have b := readsIn_len (r.ss.take j)
            rw [List.length_take] at b
            have c := l12 r rm
            exact Nat.lt_of_le_of_lt (by omega : _ ≤ 204) (by decide)
          · rw [upd_same, tk1, readsIn_snoc, if_pos q, ← List.append_assoc, List.map_append (l₂ := [sp.2])]
            rfl
        · have q : ¬ sp.1 = ("read" : Str) := fun e => q (decide_eq_true (by rw [e]))
          refine ⟨s3, ?_⟩
          rw [tk1, readsIn_snoc, if_neg q, List.append_nil]
          exact h3
      · rintro H3 ⟨s3, h3⟩
        refine ⟨s3, ?_⟩
        rw [List.length_map, ln, List.take_of_length_le (Nat.le_refl _)] at h3
        rw [tk, readsOf_snoc]
        exact h3
    · rintro H1 ⟨s1, h1⟩
      rw [kvsOf_len lt, List.take_of_length_le (Nat.le_refl _)] at h1
      refine ⟨s1 _ _ upd_same, ?_⟩
      have s2 : Same H (upd H1 d (.dK (kvsOf rs us))) := fun b o hb => by
        by_cases e : b = d
        · subst e
          rw [hd] at hb
          cases hb
          exact upd_same
        · rw [upd_ne e]
          refine s1 _ _ ?_
          rw [upd_ne e]; exact hb
      have dD : D ≠ d := fun e => by
        rw [e, s1 _ _ upd_same] at h1
        cases h1
      have h2 : (upd H1 d (.dK (kvsOf rs us))) D = some (.lst ((readsOf rs).map V.str)) := by rw [upd_ne dD]; exact h1
      generalize upd H1 d (.dK (kvsOf rs us)) = H2 at s2 h2
      intro L dxL nL hdL _
      have fewL : (readsOf rs).length < 4000 := by have := fewR rs (fun _ h => h) few; omega
      have okL : ∀ z ∈ readsOf rs, PyData.strOk z = true := fun z hz => (readsOf_ok ri z hz).ok
      refine ⟨L, dxL, _, _, rfl, upd_same, ArgS.same (.lst h2) (ns_grow nL hdL), fewL, fun tL ms H9 upL mL g1L g2L kpL => ⟨rfl, ?_⟩⟩
      obtain ⟨hL, e2⟩ := ns_after fewL okL nL hdL upL mL g1L g2L kpL
      exact ⟨L, C, dxL, _, _, rfl, g1L, T.ins.cl, T.nM, flM_get tL, k tL ms H9 upL mL g2L (s2.trans e2)⟩
end
end Mf
namespace Mf
open PySem L2
/-! ### the class Program -/
def flP (d n q : Addr) : List (Str × V) := putF "places" (.ref q) (putF "names" (.ref n) (putF "_bodies" (.ref d) []))
theorem flP_b (d n q : Addr) : (flP d n q).lookup ("_bodies" : Str) = some (.ref d) := by
  unfold flP
  rw [lookup_putF, if_neg (by decide), lookup_putF, if_neg (by decide), lookup_putF, if_pos rfl]
theorem flP_n (d n q : Addr) : (flP d n q).lookup ("names" : Str) = some (.ref n) := by
  unfold flP
  rw [lookup_putF, if_neg (by decide), lookup_putF, if_pos rfl]
theorem flP_q (d n q : Addr) : (flP d n q).lookup ("places" : Str) = some (.ref q) := by
  unfold flP
  rw [lookup_putF, if_pos rfl]
/-- a Program stands at p -/
structure PrgA (K : PySem.W.Frag) (Cp : Addr) (H : Hp) (p dx d n q : Addr) (us : List Addr) (rs : List Pr) (pl : List Str) : Prop where
  o : H p = some (.ins Cp dx (flP d n q))
  b : H d = some (.dK (kvsOf rs us))
  bo : BoA K H us rs
  st : ∀ r ∈ rs, StA H r.ts r.ss
  n : H n = some (.tup ((rs.map Pr.name).map V.str))
  q : H q = some (.tup (pl.map V.str))
def pls (rs : List Pr) : List Pc := rs.map fun r => (r.name, r.ss)
theorem pls_names (rs : List Pr) : (pls rs).map (·.1) = rs.map Pr.name := by unfold pls; rw [List.map_map]; rfl
/-- the procedures are right -/
structure RightP (rs : List Pr) : Prop where
  few : rs.length ≤ 16
  ne : rs ≠ []
  nd : (rs.map Pr.name).Nodup
  ri : ∀ r ∈ rs, Right r
  ca : Called rs
def Prg (K : PySem.W.Frag) (Cp : Addr) (H : Hp) (p : Addr) (rs : List Pr) : Prop := ∃ dx d n q us pl, PrgA K Cp H p dx d n q us rs pl ∧ RightP rs ∧ Up pl ∧ ∀ z, z ∈ pl ↔ z ∈ readsOf rs
theorem StA.sameN {H H' : Hp} {ts : List Addr} {ss : List (Str × Str)} (x : StA H ts ss) (h : SameN H H') : StA H' ts ss := by
  induction x with
  | nil => exact .nil
  | cons a _ ih => exact .cons (h _ _ noL_tup a) ih
theorem BoA.sameN {K : PySem.W.Frag} {H H' : Hp} {us : List Addr} {rs : List Pr} (x : BoA K H us rs) (h : SameN H H') : BoA K H' us rs := by
  induction x with
  | nil => exact .nil
  | cons a _ ih => exact .cons (h.tup a) ih
theorem PrgA.sameN {K : PySem.W.Frag} {Cp : Addr} {H H' : Hp} {p dx d n q : Addr} {us : List Addr} {rs : List Pr} {pl : List Str} (x : PrgA K Cp H p dx d n q us rs pl) (h : SameN H H') : PrgA K Cp H' p dx d n q us rs pl :=
  ⟨h _ _ noL_ins x.o, h _ _ noL_dK x.b, x.bo.sameN h, fun r hr => (x.st r hr).sameN h, h _ _ noL_tup x.n, h _ _ noL_tup x.q⟩
theorem Prg.sameN {K : PySem.W.Frag} {Cp : Addr} {H H' : Hp} {p : Addr} {rs : List Pr} (x : Prg K Cp H p rs) (h : SameN H H') : Prg K Cp H' p rs :=
  let ⟨dx, d, n, q, us, pl, a, b⟩ := x
  ⟨dx, d, n, q, us, pl, a.sameN h, b⟩
theorem Prg.same {K : PySem.W.Frag} {Cp : Addr} {H H' : Hp} {p : Addr} {rs : List Pr} (x : Prg K Cp H p rs) (h : Same H H') : Prg K Cp H' p rs := x.sameN (.of h)
structure PgC (K : PySem.W.Frag) (mg : Str → Option Value) (C : Addr) : Prop where
  ins : C8.InsC K C
  nB : NoAttr K C "_bodies"
  nN : NoAttr K C "names"
  nQ : NoAttr K C "places"
  mgC : mg "Program" = some (.ref C)
  kL : PySem.W.kitOne K (.type "list") (.ref C) = some false
  kT : PySem.W.kitOne K (.type "tuple") (.ref C) = some false
  bT : PySem.W.notFirst K C (.type "tuple") = true
  bL : PySem.W.notFirst K C (.type "list") = true
  mIsi : mg "isinstance" = none
  mTuple : mg "tuple" = none
  mLen : mg "len" = none
section
variable {P : Program} {w : World} {K : PySem.W.Frag} {mg : Str → Option Value} {base : Heap} {Cp C : Addr}
theorem PgC.isi {H : Hp} {p : Addr} {dx : Addr} {fs : List (Str × V)} (T : PgC K mg Cp) (h : H p = some (.ins Cp dx fs)) : TyX K H (.ref p) (.ref Cp) := .base (.ins h T.ins.cl T.ins.ha T.ins.hn T.ins.htk T.ins.hm)
def spPgInit (K : PySem.W.Frag) (Cp : Addr) : Sp := fun vs H Q _ => ∃ (p dx a : Addr) (ps : List Addr) (rs : List Pr), vs = [.ref p, .ref a] ∧ H p = some (.ins Cp dx []) ∧ (SqL K H a (ps.map V.ref) ∨ SqT K H a (ps.map V.ref)) ∧ Paired (PrA K H) ps rs ∧ RightP rs ∧
  ∀ H', Prg K Cp H' p rs → (∀ b o, b ≠ p → H b = some o → H' b = some o) → Q .non H'
abbrev sProgramInit : Stmt := inClass (top 15) 0
theorem scProgramInit : FnScope ["self", "procedures"] ["self", "procedures"] (defScope sProgramInit) := ⟨rfl, rfl, rfl, by decide +kernel, rfl, by decide +kernel, by decide +kernel⟩
theorem kvs_names : ∀ {rs : List Pr} {us : List Addr}, us.length = rs.length → ((kvsOf rs us).map fun kv => kV kv.1) = (rs.map Pr.name).map V.str
  | [], [], _ => rfl
  | a :: rs, b :: us, h => by
    show kV (Sum.inr a.name) :: (kvsOf rs us).map (fun kv => kV kv.1) = _
    rw [kvs_names (by simpa using h)]; rfl
  | [], b :: us, h => by simp at h
  | a :: rs, [], h => by simp at h
theorem PrA.sta {H : Hp} {ps : List Addr} {rs : List Pr} (h : Paired (PrA K H) ps rs) : ∀ r ∈ rs, StA H r.ts r.ss := by
  induction h with
  | nil => intro r hr; cases hr
  | cons a _ ih =>
    intro r hr
    rcases List.mem_cons.mp hr with rfl | hr
    · exact a.2.2
    · exact ih r hr
theorem paired_same {α β : Type} {R S : α → β → Prop} {xs : List α} {ys : List β} (r : Paired R xs ys) (h : ∀ a b, R a b → S a b) : Paired S xs ys := by
  induction r with
  | nil => exact .nil
  | cons a _ ih => exact .cons (h _ _ a) ih
/-- all but p, which is an instance, stays: what is not an instance -/
theorem but_tup {H H' : Hp} {p t : Addr} {o : HO} {xs : List V} (b : ∀ b o, b ≠ p → H b = some o → H' b = some o) (hp : H p = some o) (n : ∀ ys, o ≠ .tup ys ∧ ∀ q u, o ≠ .frz q u) (h : SqT K H t xs) : SqT K H' t xs := by
  rcases h with (h | ⟨q, h⟩) | h
  · exact .inl (.inl (b _ _ (fun e => by rw [e, hp] at h; exact (n xs).1 (Option.some.inj h)) h))
  · exact .inl (.inr ⟨q, b _ _ (fun e => by rw [e, hp] at h; exact (n xs).2 _ _ (Option.some.inj h)) h⟩)
  · exact .inr h
theorem ok_pgInit {f : Addr} {fd : FuncData} (F : Fun K "__init__" "Program.__init__" sProgramInit f fd) (T : PgC K mg Cp) (c__checked_bodies : Cal P w K mg base CX0 4 "_checked_bodies" ["procedures"] (spChecked K)) (c__check_callees : Cal P w K mg base CX0 1 "_check_callees" ["bodies"] (spCallees K))
    (c__places : Cal P w K mg base CX0 3 "_places" ["bodies"] (spPlaces K)) : FnOk P w K mg base CX0 5 f fd ["self", "procedures"] (spPgInit K Cp) := by
  refine F.ok scProgramInit (fun vs H Q E h => ?_) (fun cdv A outer s H vs Q E hr h => ?_)
  · obtain ⟨p, dx, a, ps, rs, rfl, _⟩ := h
    rfl
  · obtain ⟨p, dx, a, ps, rs, rfl, hp, ha, pr, R, k⟩ := h
    have mTuple := T.mTuple
    have hr__checked_bodies := hr; have hr__check_callees := hr.mono (by decide : 1 ≤ 4); have hr__places := hr.mono (by decide : 3 ≤ 4)
    refine ⟨_, (pss_cons (ps_fld (pv 0) (pe_cal c__checked_bodies hr__checked_bodies pass0 (pa_cons (pv 1) pa_nil)) rfl)
      (pss_cons (ps_expr (pe_cal c__check_callees hr__check_callees pass0 (pa_cons (fldK K (pv 0)) pa_nil)))
      (pss_cons (ps_fld (pv 0) (pe_callTy (call_tuple_dK rfl) (by rfl) mTuple (by decide +kernel) (pa_cons (fldK K (pv 0)) pa_nil)) rfl)
      (pss_one (ps_fld (pv 0) (pe_cal c__places hr__places pass0 (pa_cons (fldK K (pv 0)) pa_nil)) rfl))))), ?_⟩
    refine ⟨_, rfl, a, ps, rs, rfl, ha, pr, R.few, R.ne, R.nd, R.ri, fun d us H1 hd bo s1 => ?_⟩
    have st1 : ∀ r ∈ rs, StA H1 r.ts r.ss := fun r hr => (PrA.sta pr r hr).same s1
    have hp1 := s1 _ _ hp
    refine ⟨_, rfl, p, Cp, dx, [], rfl, hp1, T.ins.cl, T.nB, (by show 0 < 1000; decide), ?_⟩
    -- behind self._bodies
    have b2 : ∀ b o, b ≠ p → H1 b = some o → (upd H1 p (.ins Cp dx (putF "_bodies" (.ref d) []))) b = some o := fun b o n e => by rw [upd_ne n]; exact e
    have hp2 : (upd H1 p (.ins Cp dx (putF "_bodies" (.ref d) []))) p = some (.ins Cp dx (putF "_bodies" (.ref d) [])) := upd_same
    have hd2 := b2 _ _ (ne_of hd hp1 (by intro z; cases z)) hd
    have st2 : ∀ r ∈ rs, StA (upd H1 p (.ins Cp dx (putF "_bodies" (.ref d) []))) r.ts r.ss := fun r hr => paired_same (st1 r hr) fun t s ht => b2 _ _ (ne_of ht hp1 (by intro z; cases z)) ht
    have bo2 : BoA K (upd H1 p (.ins Cp dx (putF "_bodies" (.ref d) []))) us rs := paired_same bo fun u r hu => but_tup b2 hp1 (fun _ => ⟨(by intro z; cases z), fun _ _ => (by intro z; cases z)⟩) hu
    generalize upd H1 p (.ins Cp dx (putF "_bodies" (.ref d) [])) = H2 at b2 hp2 hd2 st2 bo2
    have lb : (putF "_bodies" (.ref d) [] : List (Str × V)).lookup ("_bodies" : Str) = some (.ref d) := by rw [lookup_putF, if_pos rfl]
    refine ⟨_, rfl, p, Cp, dx, _, _, rfl, hp2, T.ins.cl, T.nB, lb, d, us, rs, rfl, hd2, bo2, st2, R.ca, fun H3 s3 => ?_⟩
    have hd3 := s3 _ _ hd2
    have hp3 := s3 _ _ hp2
    refine ⟨_, rfl, p, Cp, dx, _, _, rfl, hp3, T.ins.cl, T.nB, lb, d, _, rfl, hd3, fun n hn => ?_⟩
    have hp4 := (Same.new (o := .tup ((kvsOf rs us).map fun kv => kV kv.1)) hn) _ _ hp3
    refine ⟨_, rfl, p, Cp, dx, _, rfl, hp4, T.ins.cl, T.nN, (by show 1 < 1000; decide), ?_⟩
    have lu : us.length = rs.length := Paired.length bo
    rw [kvs_names lu] at hp4 ⊢
    have s4 : Same H3 (upd H3 n (.tup ((rs.map Pr.name).map V.str))) := Same.new hn
    have hn4 : (upd H3 n (.tup ((rs.map Pr.name).map V.str))) n = some (.tup ((rs.map Pr.name).map V.str)) := upd_same
    generalize upd H3 n (.tup ((rs.map Pr.name).map V.str)) = H4 at hp4 s4 hn4
    have b5 : ∀ b o, b ≠ p → H4 b = some o → (upd H4 p (.ins Cp dx (putF "names" (.ref n) (putF "_bodies" (.ref d) [])))) b = some o := fun b o n e => by rw [upd_ne n]; exact e
    have hp5 : (upd H4 p (.ins Cp dx (putF "names" (.ref n) (putF "_bodies" (.ref d) [])))) p = some (.ins Cp dx (putF "names" (.ref n) (putF "_bodies" (.ref d) []))) := upd_same
    generalize upd H4 p (.ins Cp dx (putF "names" (.ref n) (putF "_bodies" (.ref d) []))) = H5 at b5 hp5
    have hd4 := s4 _ _ hd3
    have hd5 := b5 _ _ (ne_of hd4 hp4 (by intro z; cases z)) hd4
    have hn5 := b5 _ _ (ne_of hn4 hp4 (by intro z; cases z)) hn4
    have s24 := s3.trans s4
    have st5 : ∀ r ∈ rs, StA H5 r.ts r.ss := fun r hr => paired_same ((st2 r hr).same s24) fun t s ht => b5 _ _ (ne_of ht hp4 (by intro z; cases z)) ht
    have bo5 : BoA K H5 us rs := paired_same (bo2.same s24) fun u r hu => but_tup b5 hp4 (fun _ => ⟨(by intro z; cases z), fun _ _ => (by intro z; cases z)⟩) hu
    have lb5 : (putF "names" (.ref n) (putF "_bodies" (.ref d) []) : List (Str × V)).lookup ("_bodies" : Str) = some (.ref d) := by rw [lookup_putF, if_neg (by decide), lookup_putF, if_pos rfl]
    refine ⟨_, rfl, p, Cp, dx, _, _, rfl, hp5, T.ins.cl, T.nB, lb5, d, us, rs, rfl, hd5, bo5, st5, R.few, R.ri, fun q pl H6 up m hq s6 => ?_⟩
    have hp6 := s6 _ _ hp5
    refine ⟨_, rfl, p, Cp, dx, _, rfl, hp6, T.ins.cl, T.nQ, (by show 2 < 1000; decide), ?_⟩
    have b7 : ∀ b o, b ≠ p → H6 b = some o → (upd H6 p (.ins Cp dx (flP d n q))) b = some o := fun b o n e => by rw [upd_ne n]; exact e
    refine k _ ⟨dx, d, n, q, us, pl, ⟨upd_same, ?_, ?_, ?_, ?_, ?_⟩, R, up, m⟩ fun b o nb e => ?_
    · exact b7 _ _ (ne_of (s6 _ _ hd5) hp6 (by intro z; cases z)) (s6 _ _ hd5)
    · exact paired_same (bo5.same s6) fun u r hu => but_tup b7 hp6 (fun _ => ⟨(by intro z; cases z), fun _ _ => (by intro z; cases z)⟩) hu
    · exact fun r hr => paired_same ((st5 r hr).same s6) fun t s ht => b7 _ _ (ne_of ht hp6 (by intro z; cases z)) ht
    · exact b7 _ _ (ne_of (s6 _ _ hn5) hp6 (by intro z; cases z)) (s6 _ _ hn5)
    · exact b7 _ _ (ne_of hq hp6 (by intro z; cases z)) hq
    · exact b7 _ _ nb (s6 _ _ (b5 _ _ nb (s4 _ _ (s3 _ _ (b2 _ _ nb (s1 _ _ e))))))
end
end Mf
namespace Mf
open PySem L2
section
variable {P : Program} {w : World} {K : PySem.W.Frag} {mg : Str → Option Value} {base : Heap} {Cp C : Addr}
theorem kvs_val : ∀ {rs : List Pr} {us : List Addr} {r : Pr}, us.length = rs.length → (rs.map Pr.name).Nodup → r ∈ rs → ∃ (i : Nat) (u : Addr), rs[i]? = some r ∧ us[i]? = some u ∧ valV (kvsOf rs us) (Sum.inr r.name) = some (.ref u)
  | [], _, r, _, _, h => by cases h
  | a :: rs, [], _, h, _, _ => by simp at h
  | a :: rs, b :: us, r, l, nd, h => by
    rw [List.map_cons, List.nodup_cons] at nd
    show ∃ i u, _ ∧ _ ∧ valV ((Sum.inr a.name, V.ref b) :: kvsOf rs us) _ = _
    by_cases e : a.name = r.name
    · have hr : r = a := by
        rcases List.mem_cons.mp h with q | q
        · exact q
        · exact absurd (List.mem_map.mpr ⟨r, q, e.symm⟩) nd.1
      subst hr
      exact ⟨0, b, rfl, rfl, valV_pos rfl⟩
    · have hr : r ∈ rs := by
        rcases List.mem_cons.mp h with q | q
        · subst q; exact absurd rfl e
        · exact q
      obtain ⟨i, u, h1, h2, h3⟩ := kvs_val (by simpa using l) nd.2 hr
      exact ⟨i + 1, u, h1, h2, by rw [valV_neg (fun q => e (Sum.inr.inj q))]; exact h3⟩
def spPgGet (K : PySem.W.Frag) (Cp : Addr) : Sp := fun vs H Q _ => ∃ (p : Addr) (rs : List Pr) (r : Pr), vs = [.ref p, .str r.name] ∧ Prg K Cp H p rs ∧ r ∈ rs ∧ ∀ u, SqT K H u (r.ts.map V.ref) → StA H r.ts r.ss → Q (.ref u) H
abbrev sProgramGetitem : Stmt := inClass (top 15) 3
theorem scProgramGetitem : FnScope ["self", "name"] ["self", "name"] (defScope sProgramGetitem) := ⟨rfl, rfl, rfl, by decide +kernel, rfl, by decide +kernel, by decide +kernel⟩
theorem ok_pgGet {f : Addr} {fd : FuncData} (F : Fun K "__getitem__" "Program.__getitem__" sProgramGetitem f fd) (T : PgC K mg Cp) : FnOk P w K mg base CX0 1 f fd ["self", "name"] (spPgGet K Cp) := by
  refine F.ok scProgramGetitem (fun vs H Q E h => ?_) (fun cdv A outer s H vs Q E hr h => ?_)
  · obtain ⟨p, rs, r, rfl, _⟩ := h
    rfl
  · obtain ⟨p, rs, r, rfl, ⟨dx, d, n, q, us, pl, x, R, up, m⟩, hr', k⟩ := h
    have hu : (A.deeper (PyProof.Rows.envOfC "Program.__getitem__" (defScope sProgramGetitem) s.heap.objs.size f cdv)).units + 1 < cLine := by have := hr.units; omega
    refine ⟨_, (pss_cons (ps_if (pt_cmpR (nin K) (pv 1) (fldK K (pv 0)) (by rfl))
        (pss_one ps_never) pss_nil)
      (pss_one (ps_ret (pe_dget hu (fldK K (pv 0)) (pv 1) (fun _ _ => rfl))))), ?_⟩
    have ln : us.length = rs.length := Paired.length x.bo
    obtain ⟨i, u, h1, h2, h3⟩ := kvs_val ln R.nd hr'
    obtain ⟨r2, h4, h5⟩ := paired_get x.bo h2
    rw [h1] at h4
    cases h4
    refine ⟨_, rfl, _, rfl, p, Cp, dx, _, _, rfl, x.o, T.ins.cl, T.nN, flP_n d n q, n, _, rfl, .inr (.of x.n), rfl, flat_strs _, _, rfl, ?_⟩
    show if (!inV (.str r.name) ((rs.map Pr.name).map V.str)) = true then _ else _
    rw [inV_str, decide_eq_true (List.mem_map.mpr ⟨r, hr', rfl⟩)]
    refine iteF ?_
    exact ⟨_, rfl, p, Cp, dx, _, _, rfl, x.o, T.ins.cl, T.nB, flP_b d n q, _, rfl, d, _, rfl, .inl ⟨_, Sum.inr r.name, .inl x.b, rfl, h3.symm⟩, k u h5 (x.st r hr')⟩
def spPgHas (K : PySem.W.Frag) (Cp : Addr) : Sp := fun vs H Q _ => ∃ (p : Addr) (rs : List Pr) (z : Str), vs = [.ref p, .str z] ∧ Prg K Cp H p rs ∧ Q (.bl (decide (z ∈ rs.map Pr.name))) H
abbrev sProgramContains : Stmt := inClass (top 15) 5
theorem scProgramContains : FnScope ["self", "name"] ["self", "name"] (defScope sProgramContains) := ⟨rfl, rfl, rfl, by decide +kernel, rfl, by decide +kernel, by decide +kernel⟩
theorem ok_pgHas {f : Addr} {fd : FuncData} (F : Fun K "__contains__" "Program.__contains__" sProgramContains f fd) (T : PgC K mg Cp) : FnOk P w K mg base CX0 1 f fd ["self", "name"] (spPgHas K Cp) := by
  refine F.ok scProgramContains (fun vs H Q E h => ?_) (fun cdv A outer s H vs Q E hr h => ?_)
  · obtain ⟨p, rs, z, rfl, _⟩ := h
    rfl
  · obtain ⟨p, rs, z, rfl, ⟨dx, d, n, q, us, pl, x, R, up, m⟩, k⟩ := h
    refine ⟨_, (pss_one (ps_ret (pe_cmpR (oin K) (pv 1) (fldK K (pv 0)) (by rfl)))), ?_⟩
    refine ⟨_, rfl, _, rfl, p, Cp, dx, _, _, rfl, x.o, T.ins.cl, T.nN, flP_n d n q, n, _, rfl, .inr (.of x.n), rfl, flat_strs _, ?_⟩
    show Q (.bl (inV (.str z) ((rs.map Pr.name).map V.str))) H
    rw [inV_str]
    exact k
def spPgLen (K : PySem.W.Frag) (Cp : Addr) : Sp := fun vs H Q _ => ∃ (p : Addr) (rs : List Pr), vs = [.ref p] ∧ Prg K Cp H p rs ∧ Q (.int (rs.length : Nat)) H
abbrev sProgramLen : Stmt := inClass (top 15) 6
theorem scProgramLen : FnScope ["self"] ["self"] (defScope sProgramLen) := ⟨rfl, rfl, rfl, by decide +kernel, rfl, by decide +kernel, by decide +kernel⟩
theorem ok_pgLen {f : Addr} {fd : FuncData} (F : Fun K "__len__" "Program.__len__" sProgramLen f fd) (T : PgC K mg Cp) : FnOk P w K mg base CX0 1 f fd ["self"] (spPgLen K Cp) := by
  refine F.ok scProgramLen (fun vs H Q E h => ?_) (fun cdv A outer s H vs Q E hr h => ?_)
  · obtain ⟨p, rs, rfl, _⟩ := h
    rfl
  · obtain ⟨p, rs, rfl, ⟨dx, d, n, q, us, pl, x, R, up, m⟩, k⟩ := h
    have mLen := T.mLen
    refine ⟨_, (pss_one (ps_ret (pe_callB (k_len K) (by rfl) mLen (by decide +kernel) (pa_cons (fldK K (pv 0)) pa_nil)))), ?_⟩
    refine ⟨_, rfl, p, Cp, dx, _, _, rfl, x.o, T.ins.cl, T.nN, flP_n d n q, n, _, rfl, .inr (.of x.n), ?_⟩
    rw [List.length_map, List.length_map]
    exact k
/-! ### == -/
theorem names_ok {rs : List Pr} (R : RightP rs) : ∀ z ∈ rs.map Pr.name, PyData.strOk z = true := fun z hz => by
  obtain ⟨r, hr, rfl⟩ := List.mem_map.mp hz
  exact (R.ri r hr).1.ok
def dsOf (rs : List Pr) : List (Key × PyData) := rs.map fun r => (Sum.inr r.name, bdT r.ss)
theorem dp_body {H : Hp} {u : Addr} {r : Pr} (h : SqT K H u (r.ts.map V.ref)) (st : StA H r.ts r.ss) : Dp K H (.ref u) (bdT r.ss) :=
  .tup h (dpPair st fun t s ht => .tup (.of ht) (.cons (.str _) (.cons (.str _) .nil)))
theorem right_st {r : Pr} (h : Right r) : ∀ s ∈ r.ss, StOk s := fun s hs => stepB_ok (bodyB_st h.2.1 s hs)
theorem dpKV_of {H : Hp} : ∀ {rs : List Pr} {us : List Addr}, BoA K H us rs → (∀ r ∈ rs, StA H r.ts r.ss) → (∀ r ∈ rs, Right r) → DpKV K H (kvsOf rs us) (dsOf rs)
  | [], [], _, _, _ => .nil
  | r :: rs, u :: us, .cons a b, st, ri => .cons ⟨rfl, dp_body a (st r List.mem_cons_self), (sh_bdT (right_st (ri r List.mem_cons_self))).sh⟩ (dpKV_of b (fun x hx => st x (List.mem_cons_of_mem _ hx)) fun x hx => ri x (List.mem_cons_of_mem _ hx))
theorem valD_of : ∀ {rs : List Pr} {r : Pr}, (rs.map Pr.name).Nodup → r ∈ rs → valD (dsOf rs) (Sum.inr r.name) = some (bdT r.ss)
  | [], r, _, h => by cases h
  | a :: rs, r, nd, h => by
    rw [List.map_cons, List.nodup_cons] at nd
    unfold valD dsOf
    rw [List.map_cons]
    by_cases e : a.name = r.name
    · rw [List.find?_cons_of_pos (by simpa using e)]
      rcases List.mem_cons.mp h with q | q
      · rw [q]; rfl
      · exact absurd (List.mem_map.mpr ⟨r, q, e.symm⟩) nd.1
    · rw [List.find?_cons_of_neg (by simpa using e)]
      rcases List.mem_cons.mp h with q | q
      · subst q; exact absurd rfl e
      · exact valD_of nd.2 q
theorem eqv_dsE {es : List Pr} (nd : (es.map Pr.name).Nodup) : ∀ {rs es' : List Pr}, (∀ e ∈ es', e ∈ es) → rs.map Pr.name = es'.map Pr.name → eqvKV (dsOf es) (dsOf rs) = decide (pls rs = pls es')
  | [], [], _, _ => rfl
  | [], _ :: _, _, h => by simp at h
  | _ :: _, [], _, h => by simp at h
  | r :: rs, e :: es', hm, h => by
    rw [List.map_cons, List.map_cons, List.cons.injEq] at h
    show ((match valD (dsOf es) (Sum.inr r.name) with | some d => PyData.eqv (bdT r.ss) d | none => false) && eqvKV (dsOf es) (dsOf rs)) = decide ((r.name, r.ss) :: pls rs = (e.name, e.ss) :: pls es')
    rw [h.1, valD_of nd (hm e List.mem_cons_self), eqv_dsE nd (fun x hx => hm x (List.mem_cons_of_mem _ hx)) h.2]
    show (PyData.eqv (bdT r.ss) (bdT e.ss) && _) = _
    rw [eqv_bdT]
    by_cases a : r.ss = e.ss <;> by_cases b : pls rs = pls es' <;> simp [a, b]
def OthP (K : PySem.W.Frag) (Cp : Addr) (H : Hp) (y : V) (rs : List Pr) (b : Bool) : Prop := (∃ q es, y = .ref q ∧ Prg K Cp H q es ∧ b = decide (pls rs = pls es)) ∨ ∃ t, TyX K H y t ∧ PySem.W.kitOne K t (.ref Cp) = some false ∧ b = false
def spPgEq (K : PySem.W.Frag) (Cp : Addr) : Sp := fun vs H Q _ => ∃ (p : Addr) (rs : List Pr) (y : V) (b : Bool), vs = [.ref p, y] ∧ Prg K Cp H p rs ∧ OthP K Cp H y rs b ∧ Q (.bl b) H
abbrev sProgramEq : Stmt := inClass (top 15) 7
theorem scProgramEq : FnScope ["self", "other"] ["self", "other"] (defScope sProgramEq) := ⟨rfl, rfl, rfl, by decide +kernel, rfl, by decide +kernel, by decide +kernel⟩
theorem ok_pgEq {f : Addr} {fd : FuncData} (F : Fun K "__eq__" "Program.__eq__" sProgramEq f fd) (T : PgC K mg Cp) : FnOk P w K mg base CX0 2 f fd ["self", "other"] (spPgEq K Cp) := by
  refine F.ok scProgramEq (fun vs H Q E h => ?_) (fun cdv A outer s H vs Q E hr h => ?_)
  · obtain ⟨p, rs, y, b, rfl, _⟩ := h
    rfl
  · obtain ⟨p, rs, y, b, rfl, ⟨dx, d, n, q, us, pl, x, R, up, m⟩, ho, k⟩ := h
    have mIsi := T.mIsi; have mg_Program := T.mgC
    have hu : (A.deeper (PyProof.Rows.envOfC "Program.__eq__" (defScope sProgramEq) s.heap.objs.size f cdv)).units + 65 < cLine := by
      have q := (Room.in1 (k := 0) hr).units
      exact q
    refine ⟨_, (pss_one (ps_ret (pe_and (pe_callB (k_isi K) (by rfl) mIsi (by decide +kernel) (pa_cons (pv 1) (pa_cons (pe_glob (v := .ref _) rfl mg_Program rfl) pa_nil))) (pe_and (pe_cmpR (eqD K hr) (fldK K (pv 0)) (fldK K (pv 1)) (nomark _)) (pe_one (pe_cmpR (op_eqDD hu) (fldK K (pv 0)) (fldK K (pv 1)) (nomark _))))))), ?_⟩
    rcases ho with ⟨q2, es, rfl, ⟨dy, d2, n2, q', us2, pl2, x2, R2, up2, m2⟩, rfl⟩ | ⟨ty, hy, e, rfl⟩
    · refine ⟨_, rfl, _, _, _, _, true, rfl, .own Cp, T.isi x2.o, T.ins.me, _, rfl, iteT ⟨_, rfl, p, Cp, dx, _, _, rfl, x.o, T.ins.cl, T.nN, flP_n d n q, _, rfl, q2, Cp, dy, _, _, rfl, x2.o, T.ins.cl, T.nN, flP_n d2 n2 q', ?_⟩⟩
      refine ⟨_, _, .tup (.of x.n) (dpS _), .tup (.of x2.n) (dpS _), shT (names_ok R), shT (names_ok R2), _, rfl, ?_⟩
      show if PyData.eqvAll _ _ = true then _ else _
      rw [eqvS]
      by_cases e : rs.map Pr.name = es.map Pr.name
      · rw [decide_eq_true e]
        refine iteT ?_
        refine ⟨_, rfl, p, Cp, dx, _, _, rfl, x.o, T.ins.cl, T.nB, flP_b d n q, _, rfl, q2, Cp, dy, _, _, rfl, x2.o, T.ins.cl, T.nB, flP_b d2 n2 q', ?_⟩
        refine ⟨d, d2, _, _, dsOf rs, dsOf es, rfl, rfl, x.b, x2.b, dpKV_of x.bo x.st R.ri, dpKV_of x2.bo x2.st R2.ri, ?_⟩
        have l : (dsOf rs).length = (dsOf es).length := by
          unfold dsOf
          rw [List.length_map, List.length_map]
          have := congrArg List.length e
          simpa using this
        rw [decide_eq_true l, Bool.true_and, eqv_dsE R2.nd (fun _ h => h) e]
        exact k
      · rw [decide_eq_false e]
        refine iteF ?_
        have e2 : ¬ pls rs = pls es := fun q => e (by rw [← pls_names, ← pls_names, q])
        rw [decide_eq_false e2] at k
        exact k
    · exact ⟨_, rfl, _, _, _, _, false, rfl, .own Cp, hy, e, _, rfl, iteF k⟩
end
end Mf
namespace Mf
open PySem L2
section
variable {P : Program} {w : World} {K : PySem.W.Frag} {mg : Str → Option Value} {base : Heap}
abbrev psD : List Str := ["_law_source_here", "_law_many"]

/-! ### _law_name -/
def spName (K : PySem.W.Frag) : Sp := fun vs H Q _ => ∃ (a t : Addr) (taken : List Str) (n : Nat), vs = [.ref a, .ref t] ∧ Src H a (n + 10) ∧ t ≠ a ∧ SqL K H t (taken.map V.str) ∧ taken.length ≤ 16 ∧
  ∀ z H', IsName z → z ∉ taken → Kp a H H' → Src H' a n → Q (.str z) H'
abbrev sName : Stmt := top 28
theorem scName : FnScope ["_law_source_here", "_law_taken", "_law_size", "_law_name_here", "_law_k", "_law_one", "_law_letter"] ["_law_source_here", "_law_taken"] (defScope sName) := ⟨rfl, rfl, rfl, by decide +kernel, rfl, by decide +kernel, by decide +kernel⟩
def zAt (c : Nat) : Str := ("z" : Str) ++ ⟨#[c]⟩
theorem zAt_name {c : Nat} (h : Low c) : IsName (zAt c) := by
  have e : (zAt c).cps.toList = [122, c] := str_add _ _
  refine ⟨?_, ?_, ?_⟩
  · rw [← Array.length_toList, e]; exact (by decide : 1 ≤ 2)
  · rw [← Array.length_toList, e]; exact (by decide : 2 ≤ 8)
  · rw [e]; intro d hd
    rcases List.mem_cons.mp hd with rfl | hd
    · unfold Low; omega
    · rw [List.mem_singleton.mp hd]; exact h
theorem zAt_inj {c d : Nat} (h : zAt c = zAt d) : c = d := by
  have e : (zAt c).cps.toList = (zAt d).cps.toList := by rw [h]
  have e1 : (zAt c).cps.toList = [122, c] := str_add _ _
  have e2 : (zAt d).cps.toList = [122, d] := str_add _ _
  rw [e1, e2] at e
  simpa using e
theorem sizes_at {v : Int} (h0 : 0 ≤ v) (h : v < 13) : ∃ m : Nat, atI [V.int 8, .int 4, .int 5, .int 6, .int 7, .int 1, .int 2, .int 3, .int 1, .int 2, .int 3, .int 1, .int 2] v = some (.int (m : Nat)) ∧ 1 ≤ m ∧ m ≤ 8 := by
  obtain ⟨n, rfl⟩ := Int.eq_ofNat_of_zero_le h0
  have e : ∀ n : Fin 13, atI [V.int 8, .int 4, .int 5, .int 6, .int 7, .int 1, .int 2, .int 3, .int 1, .int 2, .int 3, .int 1, .int 2] ((n.val : Nat) : Int) = some (.int (([8, 4, 5, 6, 7, 1, 2, 3, 1, 2, 3, 1, 2].getD n.val 0 : Nat))) ∧ 1 ≤ ([8, 4, 5, 6, 7, 1, 2, 3, 1, 2, 3, 1, 2].getD n.val 0) ∧ ([8, 4, 5, 6, 7, 1, 2, 3, 1, 2, 3, 1, 2].getD n.val 0) ≤ 8 := by decide +kernel
  exact ⟨_, e ⟨n, by omega⟩⟩
theorem cut_q {z : Str} (h : IsName z) (h8 : z.length < 8) : IsName (("q" : Str) ++ cutS z (some 1) none) := by
  have hz : z.cps.toList.length = z.length := Array.length_toList
  have e : (("q" : Str) ++ cutS z (some 1) none).cps.toList = 113 :: (z.cps.toList.drop (HT.sIx z.length 0 (some 1))).take (HT.sIx z.length z.length none - HT.sIx z.length 0 (some 1)) := str_add _ _
  have l : (z.cps.toList.drop (HT.sIx z.length 0 (some 1))).take (HT.sIx z.length z.length none - HT.sIx z.length 0 (some 1)) ⊆ z.cps.toList := fun c hc => List.mem_of_mem_drop (List.mem_of_mem_take hc)
  have b : ((z.cps.toList.drop (HT.sIx z.length 0 (some 1))).take (HT.sIx z.length z.length none - HT.sIx z.length 0 (some 1))).length ≤ 7 := by
    rw [List.length_take, List.length_drop, hz]; omega
  refine ⟨?_, ?_, ?_⟩
  · rw [← Array.length_toList, e, List.length_cons]; omega
  · rw [← Array.length_toList, e, List.length_cons]; omega
  · rw [e]; intro c hc
    rcases List.mem_cons.mp hc with rfl | hc
    · unfold Low; omega
    · exact h.2.2 c (l hc)
theorem kinds_names : ∀ z ∈ ([("read" : Str), "call", "say", "try"] : List Str), IsName z := by decide +kernel
theorem zs_fresh {taken : List Str} (h : taken.length ≤ 16) : (("abcdefghijklmnopq" : Str).cps.toList.map zAt).filter (fun z => !decide (z ∈ taken)) ≠ [] := by
  intro e
  have sub : (("abcdefghijklmnopq" : Str).cps.toList.map zAt) ⊆ taken := fun z hz => by
    refine Classical.byContradiction fun n => ?_
    have m : z ∈ (("abcdefghijklmnopq" : Str).cps.toList.map zAt).filter (fun z => !decide (z ∈ taken)) := List.mem_filter.mpr ⟨hz, by simp [n]⟩
    rw [e] at m
    cases m
  have nd : (("abcdefghijklmnopq" : Str).cps.toList.map zAt).Nodup := by
    refine List.Pairwise.map _ (fun a b (n : a ≠ b) q => n (zAt_inj q)) ?_
    show (("abcdefghijklmnopq" : Str).cps.toList).Nodup
    decide +kernel
  have l := nodup_le nd sub
  rw [List.length_map] at l
  have : ("abcdefghijklmnopq" : Str).cps.toList.length = 17 := by decide +kernel
  omega
theorem ok_name {f : Addr} {fd : FuncData} (F : Fun K "_law_name" "_law_name" sName f fd) (c_draw : Cal P w K mg base CX0 1 "_law_draw" psD spDraw) (mRange : mg "range" = none) : FnOk P w K mg base CX0 2 f fd ["_law_source_here", "_law_taken"] (spName K) := by
  refine F.ok scName (fun vs H Q E h => ?_) (fun cdv A outer s H vs Q E hr h => ?_)
  · obtain ⟨a, t, taken, n, rfl, _⟩ := h
    rfl
  · obtain ⟨a, t, taken, n, rfl, S, ta, ht, tl, k⟩ := h
    have hr_draw : Room 1 (A.deeper (PyProof.Rows.envOfC "_law_name" (defScope sName) s.heap.objs.size f cdv)) := hr
    refine ⟨_, (pss_cons (ps_set (i := 2) scName.nd rfl (by first | exact Or.inl rfl | exact Or.inr rfl) (pe_ix (ixl K) (pe_lst (pa_cons pe_int (pa_cons pe_int (pa_cons pe_int (pa_cons pe_int (pa_cons pe_int (pa_cons pe_int (pa_cons pe_int (pa_cons pe_int (pa_cons pe_int (pa_cons pe_int (pa_cons pe_int (pa_cons pe_int (pa_cons pe_int pa_nil)))))))))))))) (pe_cal c_draw hr_draw pass0 (pa_cons (pv 0) (pa_cons pe_int pa_nil))) (fun _ _ => rfl)))
      (pss_cons (ps_set (i := 3) scName.nd rfl (by first | exact Or.inl rfl | exact Or.inr rfl) (pe_join pe_str (pe_lc (own := [("_law_k", 4)]) (g := (gName 4)) (tt := tYes) rfl scName.nd (pi_range1 (by rfl) mRange (pa_cons (pv 2) pa_nil)) (blkOk_by (own := [("_law_k", 4)]) (N := ["_law_source_here", "_law_taken", "_law_size", "_law_name_here", "_law_k", "_law_one", "_law_letter"]) (sc := defScope sName) (by decide +kernel)) (fun _ _ _ _ _ => (pg_name (i := 4) scName.nd rfl (by first | exact Or.inl rfl | exact Or.inr rfl))) (fun _ _ _ _ _ => pts_nil) (fun _ _ _ _ _ => (pe_ix ix_str pe_str (pe_cal c_draw hr_draw pass0 (pa_cons (pv 0) (pa_cons pe_int pa_nil))) (fun _ _ => rfl))))))
      (C8.pss_cut (ps_if (pt_chain op_lt op_lt pe_int (pv 2) pe_int)
        (pss_one (ps_set (i := 3) scName.nd rfl (by first | exact Or.inl rfl | exact Or.inr rfl) (pe_ix (ixl K) (pe_lst (pa_cons pe_str (pa_cons pe_str (pa_cons pe_str (pa_cons pe_str (pa_cons (pe_op op_add_str pe_str (pe_slice sl_str (pv 3) (po_some pe_int) po_none)) pa_nil)))))) (pe_cal c_draw hr_draw pass0 (pa_cons (pv 0) (pa_cons pe_int pa_nil))) (fun _ _ => rfl)))) pss_nil)
      (pss_cons (ps_if (pt_cmpR (nin K) (pv 3) (pv 1) (by rfl))
        (pss_one (ps_ret (pv 3))) pss_nil)
      (pss_one (ps_ret (pe_ix (ixl K) (pe_lc (own := [("_law_one", 5)]) (g := (gName 5)) rfl scName.nd (pi_list (pe_lc (own := [("_law_letter", 6)]) (g := (gName 6)) (tt := tYes) rfl scName.nd (pi_str pe_str) (blkOk_by (own := [("_law_letter", 6)]) (N := ["_law_source_here", "_law_taken", "_law_size", "_law_name_here", "_law_k", "_law_one", "_law_letter"]) (sc := defScope sName) (by decide +kernel)) (fun _ _ _ _ _ => (pg_name (i := 6) scName.nd rfl (by first | exact Or.inl rfl | exact Or.inr rfl))) (fun _ _ _ _ _ => pts_nil) (fun _ _ _ _ _ => (pe_op op_add_str pe_str (pv 6))))) (blkOk_by (own := [("_law_one", 5)]) (N := ["_law_source_here", "_law_taken", "_law_size", "_law_name_here", "_law_k", "_law_one", "_law_letter"]) (sc := defScope sName) (by decide +kernel)) (fun _ _ _ _ _ => (pg_name (i := 5) scName.nd rfl (by first | exact Or.inl rfl | exact Or.inr rfl))) (fun _ _ _ _ _ => pts_one (pt_cmpR (nin K) (pv 5) (pv 1) (by rfl))) (fun _ _ _ _ _ => (pv 5))) pe_int (fun _ _ => rfl)))))))), ?_⟩
    refine ⟨(by show 13 ≤ sizeLine; decide), fun l hl => ⟨_, rfl, a, 13, n + 9, rfl, by decide, by decide, S.new hl, fun v H1 v0 v1 k1 S1 => ?_⟩⟩
    obtain ⟨m, hm, m1, m8⟩ := sizes_at v0 v1
    refine ⟨l, _, v, _, rfl, rfl, .of (k1 _ _ (S.ne hl) upd_same), hm, ?_⟩
    have k1 : Kp a H H1 := (Kp.new hl).trans k1
    refine ⟨⟨_, rfl⟩, _, rfl, m, rfl, by omega, by omega, fun D hD => ?_⟩
    refine lc_range (lo := 0) (n := m) (fun i H' => ∃ cs : List Nat, cs.length = i ∧ (∀ c ∈ cs, Low c) ∧ H' D = some (.lst (cs.map fun c => V.str ⟨#[c]⟩)) ∧ Kp a H1 H' ∧ Src H' a (n + 9 - i) ∧ D ≠ a) ⟨[], rfl, (by simp), upd_same, Kp.new hD, S1.new hD, S1.ne hD⟩ ?_ ?_
    · rintro i H2 hi ⟨cs, hc, low, h2, k2, S2, Da⟩
      refine ⟨rfl, yes_then ?_⟩
      refine ⟨_, rfl, a, 26, n + 8 - i, rfl, by decide, by decide, S2.mono (by omega), fun v H3 v0 v1 k3 S3 => ?_⟩
      obtain ⟨c, hcc, lc⟩ := alpha_at v0 v1
      refine ⟨_, v, c, rfl, rfl, (by show 26 ≤ sizeLine; decide), hcc, _, k3 _ _ Da h2, (by rw [List.length_map, hc]; exact Nat.lt_of_lt_of_le (by omega : i < 9) (by decide)), cs ++ [c], by rw [List.length_append, hc]; rfl, fun d hd => ?_, ?_, ?_, ?_, Da⟩
      · rcases List.mem_append.mp hd with hd | hd
        · exact low d hd
        · rw [List.mem_singleton.mp hd]; exact lc
      · rw [upd_same, List.map_append]; rfl
      · exact (k2.trans k3).mut (H := H1) hD
      · exact (S3.put Da).mono (by omega)
    · rintro H2 ⟨cs, hc, low, h2, k2, S2, Da⟩
      have e1 : (cs.map fun c => V.str ⟨#[c]⟩) = ((cs.map fun c => (⟨#[c]⟩ : Str)).map V.str) := by rw [List.map_map]; rfl
      rw [e1] at h2
      have one : ∀ y ∈ cs.map (fun c => (⟨#[c]⟩ : Str)), y.length ≤ 1 := fun y hy => by
        obtain ⟨c, _, rfl⟩ := List.mem_map.mp hy
        exact Nat.le_refl 1
      refine ⟨_, D, _, rfl, rfl, .inl (.of h2), ?_, ?_⟩
      · have q := sum_len one
        rw [List.length_map] at q ⊢
        show _ + cs.length * 0 ≤ _
        omega
      rw [join_signs]
      have nm : IsName (⟨cs.toArray⟩ : Str) := ⟨by show 1 ≤ cs.toArray.size; simp; omega, by show cs.toArray.size ≤ 8; simp; omega, fun c hc => low c (by simpa using hc)⟩
      have sz : (⟨cs.toArray⟩ : Str).cps.size = m := by show cs.toArray.size = m; simp; omega
      generalize (⟨cs.toArray⟩ : Str) = z at nm sz
      have k2 : Kp a H H2 := k1.trans k2
      refine ⟨fun σ' H' => ∃ z, σ' = [some (.ref a), some (.ref t), some (.int (m : Nat)), some (.str z), none, none, none] ∧ IsName z ∧ Kp a H H' ∧ Src H' a n, ?_, ?_⟩
      · refine ⟨_, rfl, _, _, rfl, rfl, _, rfl, ite2 (fun h3 => ?_) fun _ => ?_⟩
        · refine ⟨_, _, rfl, rfl, _, rfl, ite2 (fun h8 => ?_) fun _ => ?_⟩
          · have m7 : (m : Int) < 8 := of_decide_eq_true h8
            refine ⟨_, rfl, _, rfl, z, rfl, Nat.le_trans nm.len (by decide), _, _, rfl, rfl, ?_, ?_⟩
            · have q := cutS_length z (some 1) none
              have q2 := nm.len
              show 1 + _ ≤ _
              exact Nat.le_trans (by omega : _ ≤ 9) (by decide)
            refine ⟨(by show 5 ≤ sizeLine; decide), fun l2 hl2 => ⟨_, rfl, a, 5, n, rfl, by decide, by decide, (S2.mono (by omega : n + 1 ≤ n + 9 - m)).new hl2, fun v H3 v0 v1 k3 S3 => ?_⟩⟩
            obtain ⟨x, hx, hat⟩ := atI_mem (xs := [V.str "read", .str "call", .str "say", .str "try", .str (("q" : Str) ++ cutS z (some 1) none)]) v0 v1
            have hx' : ∃ y, x = .str y ∧ IsName y := by
              have kk := kinds_names
              simp only [List.mem_cons, List.not_mem_nil, or_false] at hx kk
              rcases hx with rfl | rfl | rfl | rfl | rfl
              · exact ⟨_, rfl, kk _ (by simp)⟩
              · exact ⟨_, rfl, kk _ (by simp)⟩
              · exact ⟨_, rfl, kk _ (by simp)⟩
              · exact ⟨_, rfl, kk _ (by simp)⟩
              · exact ⟨_, rfl, cut_q nm (by have : z.length = z.cps.size := rfl; omega)⟩
            obtain ⟨y, rfl, ny⟩ := hx'
            exact ⟨l2, _, v, _, rfl, rfl, .of (k3 _ _ (S2.ne hl2) upd_same), hat, y, rfl, ny, (k2.trans (Kp.new hl2)).trans k3, S3⟩
          · exact ⟨z, rfl, nm, k2, S2.mono (by omega)⟩
        · exact ⟨_, rfl, iteF ⟨z, rfl, nm, k2, S2.mono (by omega)⟩⟩
      · rintro σ' H3 ⟨z, rfl, nm, k3, S3⟩
        have ht3 := k3.lst ta ht
        have fl : (taken.map V.str).all flatV = true := by rw [List.all_map]; exact List.all_eq_true.mpr fun _ _ => rfl
        refine ⟨_, rfl, _, rfl, t, _, rfl, .inl ht3, rfl, fl, _, rfl, ?_⟩
        show if (!inV (.str z) (taken.map V.str)) = true then _ else _
        rw [inV_str]
        by_cases hz : z ∈ taken
        · rw [decide_eq_true hz]
          refine iteF ?_
          refine ⟨_, rfl, fun E1 hE1 => ?_⟩
          refine lc_it walk_str (fun i H' => H' E1 = some (.lst ((("abcdefghijklmnopq" : Str).cps.toList.take i).map fun c => V.str (zAt c))) ∧ Kp a H3 H' ∧ Src H' a n) ⟨upd_same, Kp.new hE1, S3.new hE1⟩ (fun _ _ _ _ => trivial) ?_ ?_
          · rintro i x H4 _ hi ⟨h4, k4, S4⟩ ⟨rfl, c, hc, rfl⟩
            refine ⟨rfl, yes_then ?_⟩
            refine ⟨_, rfl, _, _, rfl, rfl, (by show 1 + 1 ≤ sizeLine; decide), _, h4, ?_, ?_, ?_, ?_⟩
            · rw [List.length_map]
              exact Nat.lt_of_le_of_lt (List.length_take_le _ _) (Nat.lt_of_lt_of_le (show i < 17 from hi) (by decide))
            · rw [upd_same, List.take_add_one, List.map_append]
              have e : ("abcdefghijklmnopq" : Str).cps.toList[i]? = some c := by rw [Array.getElem?_toList]; exact hc
              rw [e]; rfl
            · exact k4.mut hE1
            · exact S4.put (S3.ne hE1)
          · rintro H4 ⟨h4, k4, S4⟩
            have e17 : (("abcdefghijklmnopq" : Str).cps.toList.take ("abcdefghijklmnopq" : Str).cps.size).map (fun c => V.str (zAt c)) = (("abcdefghijklmnopq" : Str).cps.toList.map zAt).map V.str := by
              rw [List.take_of_length_le (by rw [Array.length_toList]; exact Nat.le_refl _), List.map_map]; rfl
            rw [e17] at h4
            have low : ∀ z ∈ ("abcdefghijklmnopq" : Str).cps.toList.map zAt, IsName z := fun z hz => by
              obtain ⟨c, hc, rfl⟩ := List.mem_map.mp hz
              refine zAt_name ?_
              have all : ∀ c ∈ ("abcdefghijklmnopq" : Str).cps.toList, 97 ≤ c ∧ c ≤ 122 := by decide +kernel
              exact all c hc
            have fresh := zs_fresh tl
            have len17 : (("abcdefghijklmnopq" : Str).cps.toList.map zAt).length = 17 := by decide +kernel
            generalize ("abcdefghijklmnopq" : Str).cps.toList.map zAt = zs at h4 low fresh len17
            refine ⟨E1, rfl, ⟨_, .of h4⟩, fun E2 hE2 => ?_⟩
            have n21 : E1 ≠ E2 := Ne.symm (ne_none hE2 h4)
            refine lc_it walk_list (fun i H' => H' E2 = some (.lst (((zs.take i).filter fun z => !decide (z ∈ taken)).map V.str)) ∧ Kp a H4 H' ∧ Src H' a n) ⟨upd_same, Kp.new hE2, S4.new hE2⟩ (fun i H' _ q => .of (q.2.1 _ _ (by exact ne_none hE1 (show H3 a = some _ from S3.choose_spec.choose_spec.choose_spec.1)) h4)) ?_ ?_
            · rintro i x H5 _ hi ⟨h5, k5, S5⟩ ⟨rfl, hx⟩
              rw [List.getElem?_map] at hx
              obtain ⟨y, hy, rfl⟩ := Option.map_eq_some_iff.mp hx
              have ht5 := (k4.trans k5).lst ta ht3
              have tk : zs.take (i + 1) = zs.take i ++ [y] := by rw [List.take_add_one, hy]; rfl
              refine ⟨rfl, _, rfl, _, rfl, t, _, rfl, .inl ht5, rfl, fl, _, rfl, ?_⟩
              show if (!inV (.str y) (taken.map V.str)) = true then _ else _
              rw [inV_str]
              by_cases hz : y ∈ taken
              · rw [decide_eq_true hz]
                refine iteF ⟨?_, k5, S5⟩
                rw [tk, List.filter_append, List.filter_cons_of_neg (by simp [hz]), List.filter_nil, List.append_nil]
                exact h5
              · rw [decide_eq_false hz]
                refine iteT ⟨_, rfl, _, h5, ?_, ?_, k5.mut hE2, S5.put (S4.ne hE2)⟩
                · rw [List.length_map]
                  refine Nat.lt_of_le_of_lt (Nat.le_trans (List.length_filter_le _ _) (List.length_take_le _ _)) (Nat.lt_of_lt_of_le (show i < 17 by rw [List.length_map, len17] at hi; exact hi) (by decide))
                · rw [upd_same, tk, List.filter_append, List.filter_cons_of_pos (by simp [hz]), List.filter_nil, List.map_append]
                  rfl
            · rintro H5 ⟨h5, k5, S5⟩
              rw [List.length_map, List.take_length] at h5
              have nice : ∀ z ∈ zs.filter (fun z => !decide (z ∈ taken)), IsName z ∧ z ∉ taken := fun z hz => by
                obtain ⟨m1, m2⟩ := List.mem_filter.mp hz
                exact ⟨low z m1, by simpa using m2⟩
              generalize zs.filter (fun z => !decide (z ∈ taken)) = fs at fresh nice h5
              rcases fs with _ | ⟨y, ys⟩
              · exact absurd rfl fresh
              · obtain ⟨n1, n2⟩ := nice y List.mem_cons_self
                exact ⟨E2, _, 0, .str y, rfl, rfl, .of h5, atI_nat (j := 0) rfl, k y H5 n1 n2 ((k3.trans k4).trans k5) S5⟩
        · rw [decide_eq_false hz]
          exact iteT ⟨_, rfl, k z H3 nm hz k3 S3⟩
def spNames : Sp := fun vs H Q _ => ∃ (a : Addr) (many n : Nat), vs = [.ref a, .int many] ∧ many ≤ 16 ∧ Src H a (n + 10 * many) ∧
  ∀ (p : Addr) (zs : List Str) (H' : Hp), zs.length = many → zs.Nodup → (∀ z ∈ zs, IsName z) → H p = none → H' p = some (.lst (zs.map V.str)) → Kp a H H' → Src H' a n → Q (.ref p) H'
abbrev sNames : Stmt := top 29
theorem scNames : FnScope ["_law_source_here", "_law_many", "_law_names_here", "_law_k"] ["_law_source_here", "_law_many"] (defScope sNames) := ⟨rfl, rfl, rfl, by decide +kernel, rfl, by decide +kernel, by decide +kernel⟩
theorem ok_names {f : Addr} {fd : FuncData} (F : Fun K "_law_names" "_law_names" sNames f fd) (c_name : Cal P w K mg base CX0 2 "_law_name" ["_law_source_here", "_law_taken"] (spName K)) (mRange : mg "range" = none) (mList : mg "list" = none) : FnOk P w K mg base CX0 3 f fd ["_law_source_here", "_law_many"] spNames := by
  refine F.ok scNames (fun vs H Q E h => ?_) (fun cdv A outer s H vs Q E hr h => ?_)
  · obtain ⟨a, many, n, rfl, _⟩ := h
    rfl
  · obtain ⟨a, many, n, rfl, m16, S, k⟩ := h
    have hr_name := hr
    refine ⟨_, (pss_cons (ps_set (i := 2) scNames.nd rfl (by first | exact Or.inl rfl | exact Or.inr rfl) (pe_lst pa_nil))
      (pss_cons (ps_for PassesOwn.never rfl (pi_range1 (by rfl) mRange (pa_cons (pv 1) pa_nil)) (pg_name (i := 3) scNames.nd rfl (by first | exact Or.inl rfl | exact Or.inr rfl))
        (pss_one (ps_expr (pe_bm PySem.F.plainAttrs_list PySem.F.slot_list_append PySem.F.type_list_append mt_append (pv 2) (pa_cons (pe_cal c_name hr_name pass0 (pa_cons (pv 0) (pa_cons (pe_callTy (k_list K) (by rfl) mList (by decide +kernel) (pa_cons (pv 2) pa_nil)) pa_nil))) pa_nil)))))
      (pss_one (ps_ret (pv 2))))), ?_⟩
    refine ⟨(by show 0 ≤ sizeLine; decide), fun p hp => ⟨_, rfl, many, rfl, by omega, by omega, ?_⟩⟩
    refine for_range (lo := 0) (n := many) (fun i σ H' => ∃ (zs : List Str) (vk : Option V), σ = [some (.ref a), some (.int many), some (.ref p), vk] ∧ zs.length = i ∧ zs.Nodup ∧ (∀ z ∈ zs, IsName z) ∧ H' p = some (.lst (zs.map V.str)) ∧ Kp a H H' ∧ Src H' a (n + 10 * (many - i)))
      ⟨[], none, rfl, rfl, List.nodup_nil, (by simp), upd_same, Kp.new hp, S.new hp⟩ ?_ ?_
    · rintro i σ H1 hi ⟨zs, vk, rfl, hl, nd, nm, h1, k1, S1⟩
      have pa : p ≠ a := S.ne hp
      refine ⟨_, rfl, .inl ⟨rfl, _, .of h1⟩, _, rfl, _, rfl, p, _, rfl, .inl (.of h1), fun l hl' => ?_⟩
      refine ⟨a, l, zs, n + 10 * (many - (i + 1)), rfl, (S1.new hl').mono (by omega), S1.ne hl', .of upd_same, by omega, fun z H2 nz fz k2 S2 => ?_⟩
      have h2 : H2 p = some (.lst (zs.map V.str)) := k2 _ _ pa ((Same.new hl') _ _ h1)
      refine ⟨p, _, _, rfl, rfl, h2, ?_, ?_⟩
      · rw [List.length_map]
        exact Nat.lt_of_lt_of_le (by omega : zs.length < 16) (by decide)
      · refine ⟨zs ++ [z], _, rfl, by rw [List.length_append, hl]; rfl, ?_, fun y hy => ?_, by rw [upd_same, List.map_append]; rfl, ?_, S2.put pa⟩
        · exact List.nodup_append.mpr ⟨nd, List.nodup_cons.mpr ⟨by simp, List.nodup_nil⟩, fun y hy u hu e => fz (by rw [List.mem_singleton.mp hu] at e; exact e ▸ hy)⟩
        · rcases List.mem_append.mp hy with hy | hy
          · exact nm y hy
          · rw [List.mem_singleton.mp hy]; exact nz
        · exact ((k1.trans (Kp.new hl')).trans k2).mut hp
    · rintro σ H1 ⟨zs, vk, rfl, hl, nd, nm, h1, k1, S1⟩
      exact ⟨_, rfl, k p zs H1 hl nd nm hp h1 k1 (S1.mono (by omega))⟩
end
end Mf
namespace Mf
open PySem L2
section
variable {P : Program} {w : World} {K : PySem.W.Frag} {mg : Str → Option Value} {base : Heap} {Cp C : Addr}
/-! ### _law_step -/
def GoodS (ns : List Str) (s : Step) : Prop := stepB s.1 s.2 = true ∧ (s.1 ∈ calling → s.2 ∈ ns)
theorem atI_str {zs : List Str} {v : Int} (h0 : 0 ≤ v) (h : v < zs.length) : ∃ z ∈ zs, atI (zs.map V.str) v = some (.str z) := by
  obtain ⟨x, hx, e⟩ := atI_mem (xs := zs.map V.str) h0 (by rw [List.length_map]; exact h)
  obtain ⟨z, hz, rfl⟩ := List.mem_map.mp hx
  exact ⟨z, hz, e⟩
theorem Kp.free {a t : Addr} {H H' : Hp} {n m : Nat} (x : Kp a H H') (_S : Src H a n) (h : H' t = none) (S' : Src H' a m) : H t = none := by
  cases e : H t with
  | none => rfl
  | some o =>
    have q := x t o (S'.ne h) e
    rw [h] at q; cases q
def spStep : Sp := fun vs H Q _ => ∃ (a nl pl : Addr) (ns ps : List Str) (n : Nat), vs = [.ref a, .ref nl, .ref pl] ∧ Src H a (n + 12) ∧ H nl = some (.lst (ns.map V.str)) ∧ H pl = some (.lst (ps.map V.str)) ∧ ns ≠ [] ∧ (∀ z ∈ ns, IsName z) ∧ (∀ z ∈ ps, IsName z) ∧ ns.length ≤ 16 ∧ ps.length ≤ 16 ∧
  ∀ t s H', GoodS ns s → H t = none → H' t = some (.tup [.str s.1, .str s.2]) → Kp a H H' → Src H' a n → Q (.ref t) H'
abbrev sStep : Stmt := top 30
theorem scStep : FnScope ["_law_source_here", "_law_names_here", "_law_places", "_law_digit"] ["_law_source_here", "_law_names_here", "_law_places"] (defScope sStep) := ⟨rfl, rfl, rfl, by decide +kernel, rfl, by decide +kernel, by decide +kernel⟩
theorem kind_at {v : Int} (h0 : 0 ≤ v) : ∃ z ∈ calling, atI [V.str "call", .str "try", .str "call"] (v % 3) = some (.str z) := by
  have h1 : 0 ≤ v % 3 := Int.emod_nonneg _ (by decide)
  have h2 : v % 3 < 3 := Int.emod_lt_of_pos _ (by decide)
  have c : v % 3 = 0 ∨ v % 3 = 1 ∨ v % 3 = 2 := by omega
  rcases c with e | e | e <;> rw [e]
  · exact ⟨"call", by decide, by decide +kernel⟩
  · exact ⟨"try", by decide, by decide +kernel⟩
  · exact ⟨"call", by decide, by decide +kernel⟩
theorem calling_kinds : ∀ z ∈ calling, z ∈ kinds := by decide +kernel
theorem stepB_of {kd wd : Str} (h : kd ∈ kinds) (h2 : IsName wd) : stepB kd wd = true := by
  unfold stepB
  rw [decide_eq_true h, (nameB_iff wd).mpr h2]; rfl
theorem ok_step {f : Addr} {fd : FuncData} (F : Fun K "_law_step" "_law_step" sStep f fd) (c_draw : Cal P w K mg base CX0 1 "_law_draw" psD spDraw) (c_name : Cal P w K mg base CX0 2 "_law_name" ["_law_source_here", "_law_taken"] (spName K)) (mLen : mg "len" = none) (mInt : mg "int" = none) :
    FnOk P w K mg base CX0 3 f fd ["_law_source_here", "_law_names_here", "_law_places"] spStep := by
  refine F.ok scStep (fun vs H Q E h => ?_) (fun cdv A outer s H vs Q E hr h => ?_)
  · obtain ⟨a, nl, pl, ns, ps, n, rfl, _⟩ := h
    rfl
  · obtain ⟨a, nl, pl, ns, ps, n, rfl, S, hn, hp, ne, nmN, nmP, lN, lP, k⟩ := h
    have hr_draw := hr.mono (by decide : 1 ≤ 2); have hr_name := hr
    refine ⟨_, (pss_cons (ps_set (i := 3) scStep.nd rfl (by first | exact Or.inl rfl | exact Or.inr rfl) (pe_cal c_draw hr_draw pass0 (pa_cons (pv 0) (pa_cons pe_int pa_nil))))
      (C8.pss_cut (ps_if (PW.pt (pw_and (pt_cmpR op_lt (pv 3) pe_int (nomark _)) (pw_and1 (pt_cmpR op_gt (pe_callB (k_len K) (by rfl) mLen (by decide +kernel) (pa_cons (pv 2) pa_nil)) pe_int (nomark _)))))
        (pss_one (ps_ret (pe_tup (pa_cons pe_str (pa_cons (pe_ix (ixl K) (pv 2) (pe_cal c_draw hr_draw pass0 (pa_cons (pv 0) (pa_cons (pe_callB (k_len K) (by rfl) mLen (by decide +kernel) (pa_cons (pv 2) pa_nil)) pa_nil))) (fun _ _ => rfl)) pa_nil))))) pss_nil)
      (pss_cons (ps_if (pt_cmpR op_eq (pv 3) pe_int (nomark _))
        (pss_one (ps_ret (pe_tup (pa_cons pe_str (pa_cons (pe_cal c_name hr_name pass0 (pa_cons (pv 0) (pa_cons (pe_lst pa_nil) pa_nil))) pa_nil))))) pss_nil)
      (pss_one (ps_ret (pe_tup (pa_cons (pe_ix (ixl K) (pe_lst (pa_cons pe_str (pa_cons pe_str (pa_cons pe_str pa_nil)))) (pe_op op_mod (pe_callTy call_int1 (by rfl) mInt (by decide +kernel) (pa_cons (pv 3) pa_nil)) pe_int) (fun _ _ => rfl)) (pa_cons (pe_ix (ixl K) (pv 1) (pe_cal c_draw hr_draw pass0 (pa_cons (pv 0) (pa_cons (pe_callB (k_len K) (by rfl) mLen (by decide +kernel) (pa_cons (pv 1) pa_nil)) pa_nil))) (fun _ _ => rfl)) pa_nil)))))))), ?_⟩
    refine ⟨_, rfl, a, 9, n + 11, rfl, by decide, by decide, S, fun v H1 v0 v1 k1 S1 => ?_⟩
    have hn1 := k1 _ _ (strs_ne S hn) hn
    have hp1 := k1 _ _ (strs_ne S hp) hp
    -- the last tuple
    have fin : ∀ {H' : Hp} {kd wd : Str}, GoodS ns (kd, wd) → Kp a H H' → Src H' a n → ∀ t, H' t = none → Q (.ref t) (upd H' t (.tup [.str kd, .str wd])) := fun {H' kd wd} g kk S' t ht =>
      k t (kd, wd) _ g (kk.free S ht S') upd_same (kk.trans (Kp.new ht)) (S'.new ht)
    refine ⟨fun σ' H' => σ' = [some (.ref a), some (.ref nl), some (.ref pl), some (.int v)] ∧ H' = H1, ?_, ?_⟩
    · refine ⟨_, rfl, _, _, rfl, rfl, _, rfl, ite2 (fun _ => ?_) fun _ => ?_⟩
      · refine ⟨_, rfl, pl, _, rfl, .inl (.of hp1), _, _, rfl, rfl, _, rfl, ite2 (fun q => ?_) fun _ => ⟨rfl, rfl⟩⟩
        have lp : 0 < ps.length := by
          have q := of_decide_eq_true q
          rw [List.length_map] at q
          omega
        refine ⟨_, rfl, _, rfl, _, rfl, pl, _, rfl, .inl (.of hp1), a, _, n + 10, rfl, ?_, ?_, S1, fun u H2 u0 u1 k2 S2 => ?_⟩
        · rw [List.length_map]; omega
        · rw [List.length_map]
          exact Nat.lt_trans (by omega : _ < 17) (by decide)
        · rw [List.length_map] at u1
          obtain ⟨z, hz, e⟩ := atI_str u0 u1
          refine ⟨pl, _, u, _, rfl, rfl, .of (k2 _ _ (strs_ne S1 hp1) hp1), e, (by show 2 ≤ sizeLine; decide), fin ⟨stepB_of (show ("read" : Str) ∈ kinds by decide +kernel) (nmP z hz), fun h => absurd h (show ¬ ("read" : Str) ∈ calling by decide +kernel)⟩ (k1.trans k2) (S2.mono (by omega))⟩
      · exact ⟨rfl, rfl⟩
    · rintro σ' H' ⟨rfl, rfl⟩
      refine ⟨_, rfl, rfl, _, rfl, ite2 (fun _ => ?_) fun _ => ?_⟩
      · refine ⟨_, rfl, (by show 0 ≤ sizeLine; decide), fun l hl => ⟨a, l, [], n + 1, rfl, S1.new hl, S1.ne hl, .of upd_same, by decide, fun z H2 nz _ k2 S2 => ⟨(by show 2 ≤ sizeLine; decide), fin ⟨stepB_of (show ("say" : Str) ∈ kinds by decide +kernel) nz, fun h => absurd h (show ¬ ("say" : Str) ∈ calling by decide +kernel)⟩ ((k1.trans (Kp.new hl)).trans k2) (S2.mono (by omega))⟩⟩⟩
      · obtain ⟨kd, hk, ek⟩ := kind_at v0
        have ln : 0 < ns.length := List.length_pos_iff.mpr ne
        refine ⟨(by show 3 ≤ sizeLine; decide), fun l hl => ⟨_, rfl, .inl ⟨_, rfl, _, _, rfl, rfl, (by show (0 : Int) < 3; decide), l, _, _, _, rfl, rfl, .of upd_same, ek, ?_⟩⟩⟩
        have hn2 := (Same.new (o := .lst [.str "call", .str "try", .str "call"]) hl) _ _ hn1
        have S2 := S1.new (o := .lst [.str "call", .str "try", .str "call"]) hl
        refine ⟨_, rfl, _, rfl, _, rfl, nl, _, rfl, .inl (.of hn2), a, _, n + 10, rfl, ?_, ?_, S2, fun u H2 u0 u1 k2 S3 => ?_⟩
        · rw [List.length_map]; omega
        · rw [List.length_map]
          exact Nat.lt_trans (by omega : _ < 17) (by decide)
        · rw [List.length_map] at u1
          obtain ⟨z, hz, e⟩ := atI_str u0 u1
          exact ⟨nl, _, u, _, rfl, rfl, .of (k2 _ _ (strs_ne S2 hn2) hn2), e, (by show 2 ≤ sizeLine; decide), fin ⟨stepB_of (calling_kinds _ hk) (nmN z hz), fun _ => hz⟩ ((k1.trans (Kp.new hl)).trans k2) (S3.mono (by omega))⟩
end
end Mf
namespace Mf
open PySem L2
section
variable {P : Program} {w : World} {K : PySem.W.Frag} {mg : Str → Option Value} {base : Heap} {Cp C : Addr}
/-! ### a row of steps, drawn -/
theorem paired_mem {α β : Type} {R : α → β → Prop} {xs : List α} {ys : List β} (r : Paired R xs ys) : Paired (fun x y => R x y ∧ y ∈ ys) xs ys := by
  induction r with
  | nil => exact .nil
  | cons a _ ih => exact .cons ⟨a, List.mem_cons_self⟩ (paired_same ih fun _ _ q => ⟨q.1, List.mem_cons_of_mem _ q.2⟩)
theorem paired_app {α β : Type} {R : α → β → Prop} {xs xs' : List α} {ys ys' : List β} (r : Paired R xs ys) (r' : Paired R xs' ys') : Paired R (xs ++ xs') (ys ++ ys') := by
  induction r with
  | nil => exact r'
  | cons a _ ih => exact .cons a ih
theorem steps_lc {σ : L2.St} {H1 : Hp} {D : Addr} {Qd : Hp → Prop} {m n i x y : Nat} {vs : List Nat} {E : XK} {a nl pl : Addr} {ns ps : List Str}
    (e0 : ∀ v, ((wipe σ vs).set i (some v))[0]? = some (some (.ref a))) (ex : ∀ v, ((wipe σ vs).set i (some v))[x]? = some (some (.ref nl))) (ey : ∀ v, ((wipe σ vs).set i (some v))[y]? = some (some (.ref pl)))
    (ew : ∀ v, wipe ((wipe σ vs).set i (some v)) vs = wipe σ vs) (hD : H1 D = none) (S : Src H1 a (n + 12 * m)) (hn : H1 nl = some (.lst (ns.map V.str))) (hp : H1 pl = some (.lst (ps.map V.str))) (ne : ns ≠ []) (nmN : ∀ z ∈ ns, IsName z) (nmP : ∀ z ∈ ps, IsName z)
    (lN : ns.length ≤ 16) (lP : ps.length ≤ 16) (m12 : m ≤ 12)
    (k : ∀ ts ss H', ts.length = m → StA H' ts ss → (∀ s ∈ ss, GoodS ns s) → H' D = some (.lst (ts.map V.ref)) → Kp a H1 H' → Src H' a n → Qd H') :
    ∃ W : Nat → Nat → Hp → Prop, (∃ k, W 0 k (upd H1 D (.lst []))) ∧ ∀ j k H, W j k H → ((Itr 0 m).stop j H ∧ Qd H) ∨ ((Itr 0 m).go j H ∧ ∃ Nx : Hp → Prop, (∀ H', Nx H' → ∃ m', m' < k ∧ W (j + 1) m' H') ∧
      ∀ z H', (Itr 0 m).yld j H z H' → gName i z (wipe σ vs) H' fun σ2 H2 => wipe σ2 vs = wipe σ vs ∧ tYes σ2 H2 fun b H3 => if b = true then tCall spStep [] E (tCons (tVar 0) (tCons (tVar x) (tCons (tVar y) tNil))) σ2 H3 fun y H4 => ∃ acc, H4 D = some (.lst acc) ∧ acc.length < sizeLine ∧ Nx (upd H4 D (.lst (acc ++ [y]))) else Nx H3) := by
  have Da : D ≠ a := S.ne hD
  have nD : nl ≠ D := Ne.symm (ne_none hD hn)
  have pD : pl ≠ D := Ne.symm (ne_none hD hp)
  refine lc_range (lo := 0) (n := m) (fun i H' => ∃ (ts : List Addr) (ss : List Step), ts.length = i ∧ StA H' ts ss ∧ (∀ s ∈ ss, GoodS ns s) ∧ H' D = some (.lst (ts.map V.ref)) ∧ Kp a H1 H' ∧ Src H' a (n + 12 * (m - i))) ⟨[], [], rfl, .nil, (by simp), upd_same, Kp.new hD, S.new hD⟩ ?_ ?_
  · rintro j H2 hj ⟨ts, ss, lt, st, gd, h2, k2, S2⟩
    refine ⟨ew _, yes_then ?_⟩
    refine ⟨_, e0 _, _, ex _, _, ey _, a, nl, pl, ns, ps, n + 12 * (m - (j + 1)), rfl, S2.mono (by omega), k2 _ _ (strs_ne S hn) hn, k2 _ _ (strs_ne S hp) hp, ne, nmN, nmP, lN, lP, fun t s H3 gs nt ht k3 S3 => ?_⟩
    have h3 := k3 _ _ Da h2
    refine ⟨_, h3, ?_, ts ++ [t], ss ++ [s], by rw [List.length_append, lt]; rfl, ?_, fun z hz => ?_, by rw [upd_same, List.map_append]; rfl, (k2.trans k3).mut hD, S3.put Da⟩
    · rw [List.length_map, lt]; exact Nat.lt_of_lt_of_le (by omega : j < 12) (by decide)
    · have tD : t ≠ D := fun e => by rw [e, h2] at nt; cases nt
      refine paired_snoc (paired_same (st.sameN (k3.noL S2)) fun t s h => ?_) (by rw [upd_ne tD]; exact ht)
      rw [upd_ne (fun e => by rw [e, h3] at h; cases h)]; exact h
    · rcases List.mem_append.mp hz with hz | hz
      · exact gd z hz
      · rw [List.mem_singleton.mp hz]; exact gs
  · rintro H2 ⟨ts, ss, lt, st, gd, h2, k2, S2⟩
    exact k ts ss H2 lt st gd h2 k2 (S2.mono (by omega))

/-! ### _law_program, _law_any_program -/
/-- a procedure in a list of the law's own -/
def PrL (H : Hp) (p : Addr) (r : Pr) : Prop := H p = some (.tup [.str r.name, .ref r.b]) ∧ H r.b = some (.lst (r.ts.map V.ref)) ∧ StA H r.ts r.ss
def LisP (H : Hp) (a : Addr) (ps : List Addr) (rs : List Pr) : Prop := H a = some (.lst (ps.map V.ref)) ∧ Paired (PrL H) ps rs
theorem PrL.same {H H' : Hp} {p : Addr} {r : Pr} (x : PrL H p r) (h : Same H H') : PrL H' p r := ⟨h _ _ x.1, h _ _ x.2.1, x.2.2.same h⟩
theorem PrL.kp {H H' : Hp} {p a : Addr} {r : Pr} {n : Nat} (x : PrL H p r) (h : Kp a H H') (S : Src H a n) : PrL H' p r := ⟨h.noL S _ _ noL_tup x.1, h _ _ (refs_ne S x.2.1) x.2.1, x.2.2.sameN (h.noL S)⟩
theorem LisP.same {H H' : Hp} {a : Addr} {ps : List Addr} {rs : List Pr} (x : LisP H a ps rs) (h : Same H H') : LisP H' a ps rs := ⟨h _ _ x.1, paired_same x.2 fun _ _ q => q.same h⟩
theorem LisP.kp {H H' : Hp} {a b : Addr} {ps : List Addr} {rs : List Pr} {n : Nat} (x : LisP H a ps rs) (h : Kp b H H') (S : Src H b n) : LisP H' a ps rs := ⟨h _ _ (refs_ne S x.1) x.1, paired_same x.2 fun _ _ q => q.kp h S⟩
/-- a list at p changes, that is no body here -/
theorem PrL.put {H : Hp} {p q : Addr} {r : Pr} {o : HO} {xs : List V} (x : PrL H q r) (h : H p = some (.lst xs)) (n : r.b ≠ p) : PrL (upd H p o) q r :=
  ⟨by rw [upd_ne (fun e => by have := x.1; rw [e, h] at this; cases this)]; exact x.1, by rw [upd_ne n]; exact x.2.1, x.2.2.sameN (SameN.refl.put h)⟩
theorem rightP_of {rs : List Pr} {ns : List Str} (e : rs.map Pr.name = ns) (nd : ns.Nodup) (l : ns.length ≤ 16) (ne : ns ≠ []) (nm : ∀ z ∈ ns, IsName z) (b : ∀ r ∈ rs, r.ss.length ≤ 12 ∧ ∀ s ∈ r.ss, GoodS ns s) : RightP rs := by
  subst e
  refine ⟨by simpa using l, fun e => ne (by rw [e]; rfl), nd, fun r hr => ⟨nm _ (List.mem_map.mpr ⟨r, hr, rfl⟩), ?_, fun s hs => Nat.le_trans (stepB_name ((b r hr).2 s hs).1).len (by decide)⟩, fun r hr s hs => ((b r hr).2 s hs).2⟩
  unfold bodyB
  rw [decide_eq_true (b r hr).1, Bool.true_and]
  exact List.all_eq_true.mpr fun s hs => ((b r hr).2 s hs).1
def spProgram : Sp := fun vs H Q _ => ∃ (a : Addr) (most : Int) (n : Nat), vs = [.ref a, .int most] ∧ 1 ≤ most ∧ most ≤ 6 ∧ Src H a (n + 1000) ∧ ∀ p ps rs H', LisP H' p ps rs → RightP rs → rs.length ≤ 6 → H p = none → (∀ r ∈ rs, H r.b = none) → Kp a H H' → Src H' a n → Q (.ref p) H'
abbrev sProgram : Stmt := top 31
theorem scProgram : FnScope ["_law_source_here", "_law_most", "_law_many", "_law_names_here", "_law_places", "_law_ring", "_law_procedures", "_law_k", "_law_body", "_law_step_here"] ["_law_source_here", "_law_most"] (defScope sProgram) := ⟨rfl, rfl, rfl, by decide +kernel, rfl, by decide +kernel, by decide +kernel⟩
set_option maxHeartbeats 1000000 in
theorem ok_program {f : Addr} {fd : FuncData} (F : Fun K "_law_program" "_law_program" sProgram f fd) (c_draw : Cal P w K mg base CX0 1 "_law_draw" psD spDraw) (c_names : Cal P w K mg base CX0 3 "_law_names" ["_law_source_here", "_law_many"] spNames)
    (c_step : Cal P w K mg base CX0 3 "_law_step" ["_law_source_here", "_law_names_here", "_law_places"] spStep) (mRange : mg "range" = none) (mInt : mg "int" = none) :
    FnOk P w K mg base CX0 4 f fd ["_law_source_here", "_law_most"] spProgram := by
  refine F.ok scProgram (fun vs H Q E h => ?_) (fun cdv A outer s H vs Q E hr h => ?_)
  · obtain ⟨a, most, n, rfl, _⟩ := h
    rfl
  · obtain ⟨a, most, n, rfl, m1, m6, S, k⟩ := h
    have hr_draw := hr.mono (by decide : 1 ≤ 3); have hr_names := hr; have hr_step := hr
    refine ⟨_, (pss_cons (ps_set (i := 2) scProgram.nd rfl (by first | exact Or.inl rfl | exact Or.inr rfl) (pe_op op_add pe_int (pe_cal c_draw hr_draw pass0 (pa_cons (pv 0) (pa_cons (pv 1) pa_nil)))))
      (pss_cons (ps_set (i := 3) scProgram.nd rfl (by first | exact Or.inl rfl | exact Or.inr rfl) (pe_cal c_names hr_names pass0 (pa_cons (pv 0) (pa_cons (pv 2) pa_nil))))
      (pss_cons (ps_set (i := 4) scProgram.nd rfl (by first | exact Or.inl rfl | exact Or.inr rfl) (pe_cal c_names hr_names pass0 (pa_cons (pv 0) (pa_cons (pe_cal c_draw hr_draw pass0 (pa_cons (pv 0) (pa_cons pe_int pa_nil))) pa_nil))))
      (pss_cons (ps_set (i := 5) scProgram.nd rfl (by first | exact Or.inl rfl | exact Or.inr rfl) (pe_cal c_draw hr_draw pass0 (pa_cons (pv 0) (pa_cons pe_int pa_nil))))
      (pss_cons (ps_set (i := 6) scProgram.nd rfl (by first | exact Or.inl rfl | exact Or.inr rfl) (pe_lst pa_nil))
      (pss_cons (ps_for PassesOwn.never rfl (pi_range1 (by rfl) mRange (pa_cons (pv 2) pa_nil)) (pg_name (i := 7) scProgram.nd rfl (by first | exact Or.inl rfl | exact Or.inr rfl))
        (pss_cons (ps_setLc (i := 8) (own := [("_law_step_here", 9)]) (g := (gName 9)) (tt := tYes) rfl scProgram.nd rfl rfl (sw_true rfl rfl rfl (by decide +kernel)) (pi_range1 (by rfl) mRange (pa_cons (pe_cal c_draw hr_draw pass0 (pa_cons (pv 0) (pa_cons pe_int pa_nil))) pa_nil)) (blkOk_by (own := [("_law_step_here", 9)]) (N := ["_law_source_here", "_law_most", "_law_many", "_law_names_here", "_law_places", "_law_ring", "_law_procedures", "_law_k", "_law_body", "_law_step_here"]) (sc := defScope sProgram) (by decide +kernel)) (fun _ _ _ _ _ => (pg_name (i := 9) scProgram.nd rfl (by first | exact Or.inl rfl | exact Or.inr rfl))) (fun _ _ _ _ _ => pts_nil) (fun _ _ _ _ _ => (pe_cal c_step hr_step pass0 (pa_cons (pv 0) (pa_cons (pv 3) (pa_cons (pv 4) pa_nil))))))
        (C8.pss_cut (ps_if (pt_cmpR op_eq (pv 5) pe_int (nomark _))
          (pss_cons (ps_expr (pe_bm PySem.F.plainAttrs_list PySem.F.slot_list_append PySem.F.type_list_append mt_append (pv 8) (pa_cons (pe_tup (pa_cons pe_str (pa_cons (pe_ix (ixl K) (pv 3) (pe_op op_mod (pe_callTy call_int1 (by rfl) mInt (by decide +kernel) (pa_cons (pe_op op_add (pv 7) pe_int) pa_nil)) (pv 2)) (fun _ _ => rfl)) pa_nil))) pa_nil)))
          (pss_one (ps_expr (pe_bm PySem.F.plainAttrs_list PySem.F.slot_list_extend PySem.F.type_list_extend mt_extend (pv 8) (pa_cons (pe_lc (own := [("_law_step_here", 9)]) (g := (gName 9)) (tt := tYes) rfl scProgram.nd (pi_range1 (by rfl) mRange (pa_cons (pe_cal c_draw hr_draw pass0 (pa_cons (pv 0) (pa_cons pe_int pa_nil))) pa_nil)) (blkOk_by (own := [("_law_step_here", 9)]) (N := ["_law_source_here", "_law_most", "_law_many", "_law_names_here", "_law_places", "_law_ring", "_law_procedures", "_law_k", "_law_body", "_law_step_here"]) (sc := defScope sProgram) (by decide +kernel)) (fun _ _ _ _ _ => (pg_name (i := 9) scProgram.nd rfl (by first | exact Or.inl rfl | exact Or.inr rfl))) (fun _ _ _ _ _ => pts_nil) (fun _ _ _ _ _ => (pe_cal c_step hr_step pass0 (pa_cons (pv 0) (pa_cons (pv 3) (pa_cons (pv 4) pa_nil)))))) pa_nil))))) pss_nil)
        (pss_one (ps_expr (pe_bm PySem.F.plainAttrs_list PySem.F.slot_list_append PySem.F.type_list_append mt_append (pv 6) (pa_cons (pe_tup (pa_cons (pe_ix (ixl K) (pv 3) (pv 7) (fun _ _ => rfl)) (pa_cons (pv 8) pa_nil))) pa_nil)))))))
      (pss_one (ps_ret (pv 6))))))))), ?_⟩
    refine ⟨_, rfl, _, rfl, a, most, n + 999, rfl, by omega, (Nat.lt_trans (by omega : most.natAbs < 7) (by decide)), S, fun v H1 v0 v1 k1 S1 => ⟨_, _, rfl, rfl, ?_⟩⟩
    obtain ⟨many, em⟩ : ∃ many : Nat, 1 + v = (many : Int) := ⟨(1 + v).toNat, by omega⟩
    show gName 2 (.int (1 + v)) _ _ _
    rw [em]
    have ml : 1 ≤ many ∧ many ≤ 6 := by omega
    refine ⟨_, rfl, _, rfl, a, many, n + 900, rfl, by omega, S1.mono (by omega), fun nl ns H2 lns nd nm nnl h2 k2 S2 => ?_⟩
    refine ⟨_, rfl, _, rfl, a, 4, n + 899, rfl, by decide, by decide, S2, fun u H3 u0 u1 k3 S3 => ?_⟩
    obtain ⟨pm, ep⟩ : ∃ pm : Nat, u = (pm : Int) := ⟨u.toNat, by omega⟩
    subst ep
    refine ⟨a, pm, n + 800, rfl, by omega, S3.mono (by omega), fun pl ps H4 lps ndp nmp npl h4 k4 S4 => ?_⟩
    refine ⟨_, rfl, a, 3, n + 799, rfl, by decide, by decide, S4, fun ring H5 r0 r1 k5 S5 => ?_⟩
    refine ⟨(by show 0 ≤ sizeLine; decide), fun p np => ?_⟩
    have hn5 : H5 nl = some (.lst (ns.map V.str)) := k5 _ _ (strs_ne S4 (k4 _ _ (strs_ne S3 (k3 _ _ (strs_ne S2 h2) h2)) (k3 _ _ (strs_ne S2 h2) h2))) (k4 _ _ (strs_ne S3 (k3 _ _ (strs_ne S2 h2) h2)) (k3 _ _ (strs_ne S2 h2) h2))
    have hp5 : H5 pl = some (.lst (ps.map V.str)) := k5 _ _ (strs_ne S4 h4) h4
    have k05 : Kp a H H5 := (((k1.trans k2).trans k3).trans k4).trans k5
    have np0 : H p = none := k05.free S np S5
    have pa : p ≠ a := S5.ne np
    have ne : ns ≠ [] := fun e => by rw [e] at lns; simp at lns; omega
    refine ⟨_, rfl, (many : Int), rfl, by omega, by omega, ?_⟩
    refine for_range (lo := 0) (n := many) (fun i σ H' => ∃ (qs : List Addr) (rs : List Pr) (vk vb vs : Option V), σ = [some (.ref a), some (.int most), some (.int many), some (.ref nl), some (.ref pl), some (.int ring), some (.ref p), vk, vb, vs] ∧ rs.map Pr.name = ns.take i ∧
        H' p = some (.lst (qs.map V.ref)) ∧ Paired (PrL H') qs rs ∧ (∀ r ∈ rs, r.b ≠ p ∧ H r.b = none ∧ r.ss.length ≤ 12 ∧ ∀ s ∈ r.ss, GoodS ns s) ∧ Kp a H H' ∧ H' nl = some (.lst (ns.map V.str)) ∧ H' pl = some (.lst (ps.map V.str)) ∧ Src H' a (n + 100 * (many - i)) ∧ qs.length = i)
      ⟨[], [], none, none, none, rfl, rfl, upd_same, .nil, (by simp), k05.trans (Kp.new np), by rw [upd_ne (Ne.symm (ne_none np hn5))]; exact hn5, by rw [upd_ne (Ne.symm (ne_none np hp5))]; exact hp5, (S5.new np).mono (by omega), rfl⟩ ?_ ?_
    · rintro i σ H6 hi ⟨qs, rs, vk, vb, vs, rfl, en, hP, pr, gd, k6, hn, hq, S6, lq⟩
      refine ⟨_, rfl, a, 4, n + 100 * (many - (i + 1)) + 90, rfl, by decide, by decide, S6.mono (by omega), fun u H7 u0 u1 k7 S7 => ?_⟩
      refine ⟨u, rfl, by omega, by omega, fun D hD => ?_⟩
      have hn7 := k7 _ _ (strs_ne S6 hn) hn
      have hq7 := k7 _ _ (strs_ne S6 hq) hq
      have hP7 := k7 _ _ pa hP
      have pr7 : Paired (PrL H7) qs rs := paired_same pr fun _ _ q => q.kp k7 S6
      have nD : H D = none := (k6.trans k7).free S hD S7
      have Dp : D ≠ p := ne_none hD hP7
      have Da : D ≠ a := S7.ne hD
      refine steps_lc (i := 9) (x := 3) (y := 4) (n := n + 100 * (many - (i + 1)) + 50) (m := u.toNat) (fun _ => rfl) (fun _ => rfl) (fun _ => rfl) (fun _ => rfl) hD (S7.mono (by omega)) hn7 hq7 ne nm nmp (by omega) (by omega) (by omega) fun ts ss H8 lt st gs h8 k8 S8 => ?_
      have hn8 := k8 _ _ (strs_ne S7 hn7) hn7
      have hq8 := k8 _ _ (strs_ne S7 hq7) hq7
      have hP8 := k8 _ _ pa hP7
      have pr8 : Paired (PrL H8) qs rs := paired_same pr7 fun _ _ q => q.kp k8 S7
      -- behind the ring's steps
      refine ⟨fun σ' H' => ∃ (ts : List Addr) (ss : List Step) (vs : Option V), σ' = [some (.ref a), some (.int most), some (.int many), some (.ref nl), some (.ref pl), some (.int ring), some (.ref p), some (.int (0 + (i : Nat))), some (.ref D), vs] ∧ ss.length ≤ 12 ∧ StA H' ts ss ∧ (∀ s ∈ ss, GoodS ns s) ∧
        H' D = some (.lst (ts.map V.ref)) ∧ Kp a H7 H' ∧ Src H' a (n + 100 * (many - (i + 1))), ?_, ?_⟩
      · have ls : ss.length ≤ 3 := by have := Paired.length st; omega
        refine ⟨_, rfl, rfl, _, rfl, ite2 (fun _ => ?_) fun _ => ⟨ts, ss, vs, rfl, by omega, st, gs, h8, k8, S8.mono (by omega)⟩⟩
        have hm : ((0 + (i : Nat) + 1 : Int) % (many : Int)) = (((i + 1) % many : Nat) : Int) := by
          rw [show (0 + (i : Nat) + 1 : Int) = ((i + 1 : Nat) : Int) by omega]
          rfl
        have hlt : (i + 1) % many < ns.length := by rw [lns]; exact Nat.mod_lt _ (by omega)
        obtain ⟨z, hz, ez⟩ := atI_str (zs := ns) (v := ((i + 1) % many : Nat)) (by omega) (by omega)
        refine ⟨_, rfl, .inl ⟨rfl, _, .of h8⟩, _, rfl, _, rfl, _, _, rfl, rfl, .inl ⟨_, rfl, _, rfl, _, _, rfl, rfl, by omega, nl, _, _, _, rfl, rfl, .of hn8, (by rw [hm]; exact ez), (by show 2 ≤ sizeLine; decide), fun t ht => ?_⟩⟩
        have h8t := (Same.new (o := .tup [.str "call", .str z]) ht) _ _ h8
        have S8t := S8.new (o := .tup [.str "call", .str z]) ht
        have k8t := k8.trans (Kp.new (o := .tup [.str "call", .str z]) ht)
        have stt : StA (upd H8 t (.tup [.str "call", .str z])) (ts ++ [t]) (ss ++ [((("call" : Str), z) : Step)]) := paired_snoc (st.same (Same.new ht)) upd_same
        have gst : ∀ s ∈ ss ++ [((("call" : Str), z) : Step)], GoodS ns s := fun s hs => by
          rcases List.mem_append.mp hs with hs | hs
          · exact gs s hs
          · rw [List.mem_singleton.mp hs]; exact ⟨stepB_of (show ("call" : Str) ∈ kinds by decide +kernel) (nm z hz), fun _ => hz⟩
        have hn8t := (Same.new (o := .tup [.str "call", .str z]) ht) _ _ hn8
        have hq8t := (Same.new (o := .tup [.str "call", .str z]) ht) _ _ hq8
        generalize upd H8 t (.tup [.str "call", .str z]) = H9 at h8t S8t k8t stt hn8t hq8t
        refine ⟨D, _, _, rfl, rfl, h8t, ?_, ?_⟩
        · rw [List.length_map, lt]; exact Nat.lt_of_lt_of_le (by omega : u.toNat < 12) (by decide)
        have hDA : (upd H9 D (.lst (ts.map V.ref ++ [.ref t]))) D = some (.lst ((ts ++ [t]).map V.ref)) := by rw [upd_same, List.map_append]; rfl
        have kA : Kp a H7 (upd H9 D (.lst (ts.map V.ref ++ [.ref t]))) := k8t.mut hD
        have SA : Src (upd H9 D (.lst (ts.map V.ref ++ [.ref t]))) a (n + 100 * (many - (i + 1)) + 50) := S8t.put Da
        have stA : StA (upd H9 D (.lst (ts.map V.ref ++ [.ref t]))) (ts ++ [t]) (ss ++ [((("call" : Str), z) : Step)]) := stt.sameN (SameN.refl.put h8t)
        have hnA : (upd H9 D (.lst (ts.map V.ref ++ [.ref t]))) nl = some (.lst (ns.map V.str)) := by rw [upd_ne (Ne.symm (ne_none hD hn7))]; exact hn8t
        have hqA : (upd H9 D (.lst (ts.map V.ref ++ [.ref t]))) pl = some (.lst (ps.map V.str)) := by rw [upd_ne (Ne.symm (ne_none hD hq7))]; exact hq8t
        generalize upd H9 D (.lst (ts.map V.ref ++ [.ref t])) = HA at hDA kA SA stA hnA hqA
        refine ⟨_, rfl, .inl ⟨rfl, _, .of hDA⟩, _, rfl, a, 3, n + 100 * (many - (i + 1)) + 49, rfl, by decide, by decide, SA, fun u2 HB u20 u21 kB SB => ⟨u2, rfl, by omega, by omega, fun D2 hD2 => ?_⟩⟩
        have hnB := kB _ _ (strs_ne SA hnA) hnA
        have hqB := kB _ _ (strs_ne SA hqA) hqA
        have hDB := kB _ _ Da hDA
        refine steps_lc (i := 9) (x := 3) (y := 4) (n := n + 100 * (many - (i + 1))) (m := u2.toNat) (fun _ => rfl) (fun _ => rfl) (fun _ => rfl) (fun _ => rfl) hD2 (SB.mono (by omega)) hnB hqB ne nm nmp (by omega) (by omega) (by omega) fun ts2 ss2 HC lt2 st2 gs2 hC kC SC => ?_
        have hDC := kC _ _ Da hDB
        have stC : StA HC (ts ++ [t]) (ss ++ [((("call" : Str), z) : Step)]) := (stA.sameN (kB.noL SA)).sameN (kC.noL SB)
        refine ⟨D, _, _, _, rfl, rfl, hDC, hC, ?_, ?_⟩
        · rw [List.length_map, List.length_map, List.length_append, lt, lt2]
          exact Nat.le_trans (by show _ + 1 + _ ≤ 12; omega) (by decide)
        refine ⟨ts ++ [t] ++ ts2, ss ++ [((("call" : Str), z) : Step)] ++ ss2, _, rfl, ?_, ?_, fun s hs => ?_, ?_, ((kA.trans kB).trans kC).mut hD, SC.put Da⟩
        · have l2 := Paired.length st2
          rw [List.length_append, List.length_append]
          show _ + 1 + _ ≤ 12
          omega
        · exact StA.sameN (paired_app stC st2) (SameN.refl.put hDC)
        · rcases List.mem_append.mp hs with hs | hs
          · exact gst s hs
          · exact gs2 s hs
        · rw [upd_same, List.map_append (l₂ := ts2)]
      · rintro σ' H9 ⟨ts, ss, vs, rfl, ls, st, gs, h9, k9, S9⟩
        have hn9 := k9 _ _ (strs_ne S7 hn7) hn7
        have hP9 := k9 _ _ pa hP7
        have pr9 : Paired (PrL H9) qs rs := paired_same pr7 fun _ _ q => q.kp k9 S7
        have hz : ns[i]? = some ns[i] := List.getElem?_eq_getElem (by omega)
        refine ⟨_, rfl, .inl ⟨rfl, _, .of hP9⟩, _, rfl, _, rfl, nl, _, _, _, rfl, rfl, .of hn9, (by rw [show (0 + (i : Nat) : Int) = ((i : Nat) : Int) by omega]; exact atI_nat (by rw [List.getElem?_map, hz]; rfl)), _, rfl, (by show 2 ≤ sizeLine; decide), fun t ht => ?_⟩
        have s9 := Same.new (o := .tup [.str ns[i], .ref D]) ht
        refine ⟨p, _, _, rfl, rfl, s9 _ _ hP9, ?_, qs ++ [t], rs ++ [⟨ns[i], D, ts, ss⟩], _, _, _, rfl, ?_, by rw [upd_same, List.map_append]; rfl, ?_, fun r hr => ?_, ?_, ?_, ?_, (S9.new ht).put pa, by rw [List.length_append, lq]; rfl⟩
        · rw [List.length_map, lq]; exact Nat.lt_of_lt_of_le (by omega : i < 12) (by decide)
        · rw [List.map_append, en, List.take_add_one, hz]; rfl
        · refine paired_snoc ?_ ⟨?_, ?_, ?_⟩
          · have pr9' : Paired (fun q r => PrL H9 q r ∧ r ∈ rs) qs rs := paired_mem pr9
            exact paired_same pr9' fun q r hqr => (hqr.1.same s9).put (s9 _ _ hP9) (gd r hqr.2).1
          · rw [upd_ne (ne_none ht hP9)]; exact upd_same
          · rw [upd_ne Dp]; exact s9 _ _ h9
          · exact (st.same s9).sameN (SameN.refl.put (s9 _ _ hP9))
        · rcases List.mem_append.mp hr with hr | hr
          · exact gd r hr
          · rw [List.mem_singleton.mp hr]; exact ⟨Dp, nD, ls, gs⟩
        · exact ((((k6.trans k7).trans k9).trans (Kp.new ht)).mut np0)
        · rw [upd_ne (Ne.symm (ne_none np hn5))]; exact s9 _ _ hn9
        · rw [upd_ne (Ne.symm (ne_none np hp5))]; exact s9 _ _ (k9 _ _ (strs_ne S7 hq7) hq7)
    · rintro σ H6 ⟨qs, rs, vk, vb, vs, rfl, en, hP, pr, gd, k6, hn, hq, S6, lq⟩
      rw [← lns, List.take_length] at en
      exact ⟨_, rfl, k p qs rs H6 ⟨hP, pr⟩ (rightP_of en nd (by omega) ne nm fun r hr => (gd r hr).2.2) (by have := congrArg List.length en; rw [List.length_map] at this; omega) np0 (fun r hr => (gd r hr).2.1) k6 (S6.mono (by omega))⟩
end
end Mf
namespace Mf
open PySem L2
section
variable {P : Program} {w : World} {K : PySem.W.Frag} {mg : Str → Option Value} {base : Heap} {Cp C : Addr}
/-! ### _law_any_program -/
def spAny : Sp := fun vs H Q _ => ∃ (a : Addr) (n : Nat), vs = [.ref a] ∧ Src H a (n + 4000) ∧ ∀ p ps rs H', LisP H' p ps rs → RightP rs → (rs.length ≤ 6 ∨ rs.length = 16) → H p = none → (∀ r ∈ rs, H r.b = none) → Kp a H H' → Src H' a n → Q (.ref p) H'
abbrev sAny_program : Stmt := top 34
theorem scAny_program : FnScope ["_law_source_here", "_law_names_here", "_law_places", "_law_procedures", "_law_name_here", "_law_step_here"] ["_law_source_here"] (defScope sAny_program) := ⟨rfl, rfl, rfl, by decide +kernel, rfl, by decide +kernel, by decide +kernel⟩
theorem ok_any_program {f : Addr} {fd : FuncData} (F : Fun K "_law_any_program" "_law_any_program" sAny_program f fd) (c_draw : Cal P w K mg base CX0 1 "_law_draw" psD spDraw) (c_names : Cal P w K mg base CX0 3 "_law_names" ["_law_source_here", "_law_many"] spNames)
    (c_step : Cal P w K mg base CX0 3 "_law_step" ["_law_source_here", "_law_names_here", "_law_places"] spStep) (c_program : Cal P w K mg base CX0 4 "_law_program" ["_law_source_here", "_law_most"] spProgram) (mRange : mg "range" = none) :
    FnOk P w K mg base CX0 5 f fd ["_law_source_here"] spAny := by
  refine F.ok scAny_program (fun vs H Q E h => ?_) (fun cdv A outer s H vs Q E hr h => ?_)
  · obtain ⟨a, n, rfl, _⟩ := h
    rfl
  · obtain ⟨a, n, rfl, S, k⟩ := h
    have hr_draw := hr.mono (by decide : 1 ≤ 4); have hr_names := hr.mono (by decide : 3 ≤ 4); have hr_step := hr_names; have hr_program := hr
    refine ⟨_, (pss_cons (ps_if (pt_cmpR op_gt (pe_cal c_draw hr_draw pass0 (pa_cons (pv 0) (pa_cons pe_int pa_nil))) pe_int (nomark _))
        (pss_one (ps_ret (pe_cal c_program hr_program pass0 (pa_cons (pv 0) (pa_cons pe_int pa_nil))))) pss_nil)
      (pss_cons (ps_set (i := 1) scAny_program.nd rfl (by first | exact Or.inl rfl | exact Or.inr rfl) (pe_cal c_names hr_names pass0 (pa_cons (pv 0) (pa_cons pe_int pa_nil))))
      (pss_cons (ps_set (i := 2) scAny_program.nd rfl (by first | exact Or.inl rfl | exact Or.inr rfl) (pe_cal c_names hr_names pass0 (pa_cons (pv 0) (pa_cons pe_int pa_nil))))
      (pss_cons (ps_set (i := 3) scAny_program.nd rfl (by first | exact Or.inl rfl | exact Or.inr rfl) (pe_lst pa_nil))
      (pss_cons (ps_for PassesOwn.never rfl (pi_list (pv 1)) (pg_name (i := 4) scAny_program.nd rfl (by first | exact Or.inl rfl | exact Or.inr rfl))
        (pss_one (ps_expr (pe_bm PySem.F.plainAttrs_list PySem.F.slot_list_append PySem.F.type_list_append mt_append (pv 3) (pa_cons (pe_tup (pa_cons (pv 4) (pa_cons (pe_lc (own := [("_law_step_here", 5)]) (g := (gName 5)) (tt := tYes) rfl scAny_program.nd (pi_range1 (by rfl) mRange (pa_cons (pe_cal c_draw hr_draw pass0 (pa_cons (pv 0) (pa_cons pe_int pa_nil))) pa_nil)) (blkOk_by (own := [("_law_step_here", 5)]) (N := ["_law_source_here", "_law_names_here", "_law_places", "_law_procedures", "_law_name_here", "_law_step_here"]) (sc := defScope sAny_program) (by decide +kernel)) (fun _ _ _ _ _ => (pg_name (i := 5) scAny_program.nd rfl (by first | exact Or.inl rfl | exact Or.inr rfl))) (fun _ _ _ _ _ => pts_nil) (fun _ _ _ _ _ => (pe_cal c_step hr_step pass0 (pa_cons (pv 0) (pa_cons (pv 1) (pa_cons (pv 2) pa_nil)))))) pa_nil))) pa_nil)))))
      (pss_one (ps_ret (pv 3)))))))), ?_⟩
    refine ⟨_, rfl, a, 6, n + 3999, rfl, by decide, by decide, S, fun v H1 v0 v1 k1 S1 => ⟨_, _, rfl, rfl, _, rfl, ite2 (fun _ => ?_) fun _ => ?_⟩⟩
    · refine ⟨_, rfl, a, 6, n, rfl, by decide, by decide, S1.mono (by omega), fun p ps rs H2 l2 R l6 np nb k2 S2 => ?_⟩
      exact k p ps rs H2 l2 R (.inl l6) (k1.free S np S1) (fun r hr => k1.free S (nb r hr) S1) (k1.trans k2) S2
    · refine ⟨_, rfl, a, 16, n + 3800, rfl, by decide, S1.mono (by omega), fun nl ns H2 lns nd nm nnl h2 k2 S2 => ?_⟩
      refine ⟨_, rfl, a, 3, n + 3700, rfl, by decide, S2.mono (by omega), fun pl ps H3 lps ndp nmp npl h3 k3 S3 => ?_⟩
      refine ⟨(by show 0 ≤ sizeLine; decide), fun p np => ?_⟩
      have hn3 := k3 _ _ (strs_ne S2 h2) h2
      have k03 : Kp a H H3 := (k1.trans k2).trans k3
      have np0 : H p = none := k03.free S np S3
      have pa : p ≠ a := S3.ne np
      have ne : ns ≠ [] := fun e => by rw [e] at lns; simp at lns
      have hn4 := (Same.new (o := .lst []) np) _ _ hn3
      refine ⟨_, rfl, nl, rfl, ⟨_, .of hn4⟩, ?_⟩
      refine for_it walk_list (fun i σ H' => ∃ (qs : List Addr) (rs : List Pr) (vn vs : Option V), σ = [some (.ref a), some (.ref nl), some (.ref pl), some (.ref p), vn, vs] ∧ rs.map Pr.name = ns.take i ∧
          H' p = some (.lst (qs.map V.ref)) ∧ Paired (PrL H') qs rs ∧ (∀ r ∈ rs, r.b ≠ p ∧ H r.b = none ∧ r.ss.length ≤ 12 ∧ ∀ s ∈ r.ss, GoodS ns s) ∧ Kp a H H' ∧ H' nl = some (.lst (ns.map V.str)) ∧ H' pl = some (.lst (ps.map V.str)) ∧ Src H' a (n + 200 * (16 - i)) ∧ qs.length = i)
        ⟨[], [], none, none, rfl, rfl, upd_same, .nil, (by simp), k03.trans (Kp.new np), hn4, (Same.new np) _ _ h3, (S3.new np).mono (by omega), rfl⟩ (fun i σ H' _ q => .of q.choose_spec.choose_spec.choose_spec.choose_spec.2.2.2.2.2.2.1) ?_ ?_
      · rintro i x σ H6 _ hi ⟨qs, rs, vn, vs, rfl, en, hP, pr, gd, k6, hn, hq, S6, lq⟩ ⟨rfl, hx⟩
        rw [List.getElem?_map] at hx
        obtain ⟨z, hz, rfl⟩ := Option.map_eq_some_iff.mp hx
        rw [List.length_map] at hi
        refine ⟨_, rfl, .inl ⟨rfl, _, .of hP⟩, _, rfl, _, rfl, a, 13, n + 200 * (16 - (i + 1)) + 199, rfl, by decide, by decide, S6.mono (by omega), fun u H7 u0 u1 k7 S7 => ⟨u, rfl, by omega, by omega, fun D hD => ?_⟩⟩
        have hn7 := k7 _ _ (strs_ne S6 hn) hn
        have hq7 := k7 _ _ (strs_ne S6 hq) hq
        have hP7 := k7 _ _ pa hP
        have pr7 : Paired (PrL H7) qs rs := paired_same pr fun _ _ q => q.kp k7 S6
        have nD : H D = none := (k6.trans k7).free S hD S7
        have Dp : D ≠ p := ne_none hD hP7
        have Da : D ≠ a := S7.ne hD
        refine steps_lc (i := 5) (x := 1) (y := 2) (n := n + 200 * (16 - (i + 1))) (m := u.toNat) (fun _ => rfl) (fun _ => rfl) (fun _ => rfl) (fun _ => rfl) hD (S7.mono (by omega)) hn7 hq7 ne nm nmp (by omega) (by omega) (by omega) fun ts ss H9 lt st gs h9 k9 S9 => ?_
        have hn9 := k9 _ _ (strs_ne S7 hn7) hn7
        have hq9 := k9 _ _ (strs_ne S7 hq7) hq7
        have hP9 := k9 _ _ pa hP7
        have pr9 : Paired (PrL H9) qs rs := paired_same pr7 fun _ _ q => q.kp k9 S7
        have ls : ss.length ≤ 12 := by have := Paired.length st; omega
        refine ⟨(by show 2 ≤ sizeLine; decide), fun t ht => ?_⟩
        have s9 := Same.new (o := .tup [.str z, .ref D]) ht
        refine ⟨p, _, _, rfl, rfl, s9 _ _ hP9, ?_, qs ++ [t], rs ++ [⟨z, D, ts, ss⟩], _, _, rfl, ?_, by rw [upd_same, List.map_append]; rfl, ?_, fun r hr => ?_, ?_, ?_, ?_, (S9.new ht).put pa, by rw [List.length_append, lq]; rfl⟩
        · rw [List.length_map, lq]; exact Nat.lt_of_lt_of_le (by omega : i < 17) (by decide)
        · rw [List.map_append, en, List.take_add_one, hz]; rfl
        · refine paired_snoc ?_ ⟨?_, ?_, ?_⟩
          · exact paired_same (paired_mem pr9) fun q r hqr => (hqr.1.same s9).put (s9 _ _ hP9) (gd r hqr.2).1
          · rw [upd_ne (ne_none ht hP9)]; exact upd_same
          · rw [upd_ne Dp]; exact s9 _ _ h9
          · exact (st.same s9).sameN (SameN.refl.put (s9 _ _ hP9))
        · rcases List.mem_append.mp hr with hr | hr
          · exact gd r hr
          · rw [List.mem_singleton.mp hr]; exact ⟨Dp, nD, ls, gs⟩
        · exact ((((k6.trans k7).trans k9).trans (Kp.new ht)).mut np0)
        · rw [upd_ne (Ne.symm (ne_none np hn3))]; exact s9 _ _ hn9
        · rw [upd_ne (Ne.symm (ne_none np h3))]; exact s9 _ _ hq9
      · rintro σ H6 ⟨qs, rs, vn, vs, rfl, en, hP, pr, gd, k6, hn, hq, S6, lq⟩
        rw [List.length_map, List.take_length] at en
        exact ⟨_, rfl, k p qs rs H6 ⟨hP, pr⟩ (rightP_of en nd (by omega) ne nm fun r hr => (gd r hr).2.2) (.inr (by have := congrArg List.length en; rw [List.length_map] at this; omega)) np0 (fun r hr => (gd r hr).2.1) k6 (S6.mono (by omega))⟩

/-! ### _law_copy -/
theorem pls_snoc {rs : List Pr} {r : Pr} : pls (rs ++ [r]) = pls rs ++ [(r.name, r.ss)] := by unfold pls; rw [List.map_append]; rfl
theorem pls_take {rs : List Pr} {i : Nat} : pls (rs.take i) = (pls rs).take i := by unfold pls; rw [List.map_take]
def readsC (x : List Pc) : List Str := (x.map fun r => readsIn r.2).flatten
theorem readsOf_pls (rs : List Pr) : readsOf rs = readsC (pls rs) := by unfold readsOf readsC pls; rw [List.map_map]; rfl
theorem pls_mem {rs : List Pr} {r : Pr} (h : r ∈ rs) : (r.name, r.ss) ∈ pls rs := List.mem_map.mpr ⟨r, h, rfl⟩
theorem rightP_pls {rs es : List Pr} (e : pls es = pls rs) (R : RightP rs) : RightP es := by
  have l : es.length = rs.length := by have := congrArg List.length e; simpa [pls] using this
  have n : es.map Pr.name = rs.map Pr.name := by rw [← pls_names, ← pls_names, e]
  have back : ∀ r ∈ es, ∃ q ∈ rs, q.name = r.name ∧ q.ss = r.ss := fun r hr => by
    have m := pls_mem hr
    rw [e] at m
    obtain ⟨q, hq, he⟩ := List.mem_map.mp m
    exact ⟨q, hq, congrArg Prod.fst he, congrArg Prod.snd he⟩
  refine ⟨by rw [l]; exact R.few, fun z => R.ne (List.length_eq_zero_iff.mp (by rw [← l, z]; rfl)), by rw [n]; exact R.nd, fun r hr => ?_, fun r hr s hs hc => ?_⟩
  · obtain ⟨q, hq, h1, h2⟩ := back r hr
    have := R.ri q hq
    unfold Right at this ⊢
    rw [← h1, ← h2]; exact this
  · obtain ⟨q, hq, h1, h2⟩ := back r hr
    rw [n]
    exact R.ca q hq s (by rw [h2]; exact hs) hc
theorem paired_has {α β : Type} {R : α → β → Prop} {xs : List α} {ys : List β} (r : Paired R xs ys) {y : β} (h : y ∈ ys) : ∃ x, R x y := by
  induction r with
  | nil => cases h
  | cons a _ ih =>
    rcases List.mem_cons.mp h with q | q
    · exact ⟨_, q ▸ a⟩
    · exact ih q
def spCopy : Sp := fun vs H Q _ => ∃ (a : Addr) (ps : List Addr) (rs : List Pr), vs = [.ref a] ∧ LisP H a ps rs ∧ rs.length ≤ 16 ∧
  ∀ q qs es H', LisP H' q qs es → pls es = pls rs → H q = none → (∀ r ∈ es, H r.b = none ∧ r.b ≠ q) → (es.map Pr.b).Nodup → Same H H' → Q (.ref q) H'
abbrev sCopy : Stmt := top 32
theorem scCopy : FnScope ["_law_procedures", "_law_name_here", "_law_body"] ["_law_procedures"] (defScope sCopy) := ⟨rfl, rfl, rfl, by decide +kernel, rfl, by decide +kernel, by decide +kernel⟩
theorem ok_copy {f : Addr} {fd : FuncData} (F : Fun K "_law_copy" "_law_copy" sCopy f fd) (mList : mg "list" = none) : FnOk P w K mg base CX0 1 f fd ["_law_procedures"] spCopy := by
  refine F.ok scCopy (fun vs H Q E h => ?_) (fun cdv A outer s H vs Q E hr h => ?_)
  · obtain ⟨a, ps, rs, rfl, _⟩ := h
    rfl
  · obtain ⟨a, ps, rs, rfl, L, few, k⟩ := h
    have lpr : ps.length = rs.length := Paired.length L.2
    refine ⟨_, (pss_one (ps_ret (pe_lc (own := [("_law_name_here", 1), ("_law_body", 2)]) (g := (gTup K 2 (gCons (gName 1) (gCons (gName 2) gNil)))) (tt := tYes) rfl scCopy.nd (pi_list (pv 0)) (blkOk_by (own := [("_law_name_here", 1), ("_law_body", 2)]) (N := ["_law_procedures", "_law_name_here", "_law_body"]) (sc := defScope sCopy) (by decide +kernel)) (fun _ _ _ _ _ => (pg_tup rfl (pgs_cons (pg_name (i := 1) scCopy.nd rfl (by first | exact Or.inl rfl | exact Or.inr rfl)) (pgs_cons (pg_name (i := 2) scCopy.nd rfl (by first | exact Or.inl rfl | exact Or.inr rfl)) pgs_nil)))) (fun _ _ _ _ _ => pts_nil) (fun _ _ _ _ _ => (pe_tup (pa_cons (pv 1) (pa_cons (pe_callTy (k_list K) (by rfl) mList (by decide +kernel) (pa_cons (pv 2) pa_nil)) pa_nil))))))), ?_⟩
    refine ⟨_, rfl, a, rfl, ⟨_, .of L.1⟩, fun D hD => ?_⟩
    refine lc_it walk_list (fun i H' => ∃ (qs : List Addr) (es : List Pr), H' D = some (.lst (qs.map V.ref)) ∧ Paired (PrL H') qs es ∧ pls es = pls (rs.take i) ∧ Same H H' ∧ (∀ r ∈ es, H r.b = none ∧ r.b ≠ D) ∧ (es.map Pr.b).Nodup ∧ qs.length = i)
      ⟨[], [], upd_same, .nil, rfl, Same.new hD, (by simp), List.nodup_nil, rfl⟩ (fun i H' _ q => .of (q.choose_spec.choose_spec.2.2.2.1 _ _ L.1)) ?_ ?_
    · rintro i x _ H1 hi ⟨qs, es, h1, pr, ep, s1, fr, nd, lq⟩ ⟨rfl, hx⟩
      rw [List.getElem?_map] at hx
      obtain ⟨p, hp, rfl⟩ := Option.map_eq_some_iff.mp hx
      obtain ⟨r, hr2, pa⟩ := paired_get L.2 hp
      have p1 := pa.same s1
      rw [List.length_map, lpr] at hi
      refine ⟨p, _, rfl, .of p1.1, rfl, _, _, rfl, _, _, rfl, rfl, rfl, yes_then ?_⟩
      refine ⟨_, rfl, _, rfl, r.b, _, rfl, .inl (.of p1.2.1), fun l hl => ⟨(by show 2 ≤ sizeLine; decide), fun t ht => ?_⟩⟩
      have s2 : Same H1 (upd (upd H1 l (.lst (r.ts.map V.ref))) t (.tup [.str r.name, .ref l])) := (Same.new hl).trans (Same.new ht)
      have hl2 : (upd (upd H1 l (.lst (r.ts.map V.ref))) t (.tup [.str r.name, .ref l])) l = some (.lst (r.ts.map V.ref)) := (Same.new ht) _ _ upd_same
      have ht2 : (upd (upd H1 l (.lst (r.ts.map V.ref))) t (.tup [.str r.name, .ref l])) t = some (.tup [.str r.name, .ref l]) := upd_same
      generalize upd (upd H1 l (.lst (r.ts.map V.ref))) t (.tup [.str r.name, .ref l]) = H2 at s2 hl2 ht2
      have h2 := s2 _ _ h1
      have lD : l ≠ D := ne_none hl h1
      refine ⟨_, h2, ?_, qs ++ [t], es ++ [⟨r.name, l, r.ts, r.ss⟩], by rw [upd_same, List.map_append]; rfl, ?_, ?_, (s1.trans s2).mut hD, fun e he => ?_, ?_, by rw [List.length_append, lq]; rfl⟩
      · rw [List.length_map, lq]; exact Nat.lt_of_lt_of_le (by omega : i < 17) (by decide)
      · refine paired_snoc (paired_same (paired_mem pr) fun q e hqe => (hqe.1.same s2).put h2 (fr e hqe.2).2) ⟨?_, ?_, ?_⟩
        · rw [upd_ne (fun e => by rw [e, h2] at ht2; cases ht2)]; exact ht2
        · rw [upd_ne lD]; exact hl2
        · exact (p1.2.2.same s2).sameN (SameN.refl.put h2)
      · rw [pls_snoc, ep, List.take_add_one, hr2]
        show _ = pls (rs.take i ++ [r])
        rw [pls_snoc]
      · rcases List.mem_append.mp he with he | he
        · exact fr e he
        · rw [List.mem_singleton.mp he]
          exact ⟨by cases hH : H l with | none => rfl | some o => (rw [s1 _ _ hH] at hl; cases hl), lD⟩
      · rw [List.map_append]
        refine List.nodup_append.mpr ⟨nd, List.nodup_cons.mpr ⟨by simp, List.nodup_nil⟩, fun y hy u hu e => ?_⟩
        obtain ⟨e', he', rfl⟩ := List.mem_map.mp hy
        have q : u = l := List.mem_singleton.mp hu
        obtain ⟨p', hp'⟩ := paired_has pr he'
        have z := hp'.2.1
        rw [e, q, hl] at z
        cases z
    · rintro H1 ⟨qs, es, h1, pr, ep, s1, fr, nd, lq⟩
      rw [List.length_map, lpr, List.take_length] at ep
      exact k D qs es H1 ⟨h1, pr⟩ ep hD fr nd s1

end
end Mf
namespace Mf
open PySem L2
section
variable {P : Program} {w : World} {K : PySem.W.Frag} {mg : Str → Option Value} {base : Heap} {Cp C : Addr}
/-! ### the methods of Program -/
structure PgOps (P : Program) (w : World) (K : PySem.W.Frag) (mg : Str → Option Value) (base : Heap) (Cp : Addr) : Prop where
  eq : CalM P w K mg base CX0 2 Cp "__eq__" ["self", "other"] (spPgEq K Cp)
  get : CalM P w K mg base CX0 1 Cp "__getitem__" ["self", "name"] (spPgGet K Cp)
  has : CalM P w K mg base CX0 1 Cp "__contains__" ["self", "name"] (spPgHas K Cp)
  len : CalM P w K mg base CX0 1 Cp "__len__" ["self"] (spPgLen K Cp)
  ne : PySem.W.findIn K (.ref Cp) "__ne__" = some (some (.builtin "object.__ne__"))
theorem pls_get {es rs : List Pr} (e : pls es = pls rs) {i : Nat} {r : Pr} (h : es[i]? = some r) : ∃ q, rs[i]? = some q ∧ q.name = r.name ∧ q.ss = r.ss := by
  have h1 : (pls es)[i]? = some (r.name, r.ss) := by unfold pls; rw [List.getElem?_map, h]; rfl
  rw [e] at h1
  unfold pls at h1
  rw [List.getElem?_map] at h1
  obtain ⟨q, hq, he⟩ := Option.map_eq_some_iff.mp h1
  exact ⟨q, hq, congrArg Prod.fst he, congrArg Prod.snd he⟩
theorem pls_len {es rs : List Pr} (e : pls es = pls rs) : es.length = rs.length := by have := congrArg List.length e; simpa [pls] using this
theorem pls_nms {es rs : List Pr} (e : pls es = pls rs) : es.map Pr.name = rs.map Pr.name := by rw [← pls_names, ← pls_names, e]
end
end Mf
namespace Mf
open PySem L2
section
variable {P : Program} {w : World} {K : PySem.W.Frag} {mg : Str → Option Value} {base : Heap} {Cp C : Addr}
/-! ### _law_some_program -/
theorem places_at {v : Int} (h0 : 0 ≤ v) (h : v < 8) : ∃ m : Nat, atI [V.int 1, .int 2, .int 3, .int 1, .int 2, .int 0, .int 1, .int 2] v = some (.int (m : Nat)) ∧ m ≤ 3 := by
  obtain ⟨n, rfl⟩ := Int.eq_ofNat_of_zero_le h0
  have e : ∀ n : Fin 8, atI [V.int 1, .int 2, .int 3, .int 1, .int 2, .int 0, .int 1, .int 2] ((n.val : Nat) : Int) = some (.int (([1, 2, 3, 1, 2, 0, 1, 2].getD n.val 0 : Nat))) ∧ ([1, 2, 3, 1, 2, 0, 1, 2].getD n.val 0) ≤ 3 := by decide +kernel
  exact ⟨_, e ⟨n, by omega⟩⟩
theorem paired_take {α β : Type} {R : α → β → Prop} {xs : List α} {ys : List β} (r : Paired R xs ys) : ∀ n, Paired R (xs.take n) (ys.take n) := by
  induction r with
  | nil => intro n; rw [List.take_nil, List.take_nil]; exact .nil
  | cons a _ ih =>
    intro n
    cases n with
    | zero => exact .nil
    | succ n => exact .cons a (ih n)
theorem paired_drop {α β : Type} {R : α → β → Prop} {xs : List α} {ys : List β} (r : Paired R xs ys) : ∀ n, Paired R (xs.drop n) (ys.drop n) := by
  induction r with
  | nil => intro n; rw [List.drop_nil, List.drop_nil]; exact .nil
  | cons a h ih =>
    intro n
    cases n with
    | zero => exact .cons a h
    | succ n => exact ih n
abbrev sSome_program : Stmt := top 33
theorem scSome_program : FnScope ["_law_source_here", "_law_most", "_law_many", "_law_names_here", "_law_places", "_law_ring", "_law_procedures", "_law_k", "_law_body", "_law_kind", "_law_step_here"] ["_law_source_here", "_law_most"] (defScope sSome_program) := ⟨rfl, rfl, rfl, by decide +kernel, rfl, by decide +kernel, by decide +kernel⟩
set_option maxHeartbeats 1000000 in
theorem ok_some_program {f : Addr} {fd : FuncData} (F : Fun K "_law_some_program" "_law_some_program" sSome_program f fd) (c_draw : Cal P w K mg base CX0 1 "_law_draw" psD spDraw) (c_names : Cal P w K mg base CX0 3 "_law_names" ["_law_source_here", "_law_many"] spNames)
    (c_step : Cal P w K mg base CX0 3 "_law_step" ["_law_source_here", "_law_names_here", "_law_places"] spStep) (mRange : mg "range" = none) (mInt : mg "int" = none) (mLen : mg "len" = none) :
    FnOk P w K mg base CX0 4 f fd ["_law_source_here", "_law_most"] spProgram := by
  refine F.ok scSome_program (fun vs H Q E h => ?_) (fun cdv A outer s H vs Q E hr h => ?_)
  · obtain ⟨a, most, n, rfl, _⟩ := h
    rfl
  · obtain ⟨a, most, n, rfl, m1, m6, S, k⟩ := h
    have hr_draw := hr.mono (by decide : 1 ≤ 3); have hr_names := hr; have hr_step := hr
    refine ⟨_, (pss_cons (ps_set (i := 2) scSome_program.nd rfl (by first | exact Or.inl rfl | exact Or.inr rfl) (pe_op op_add pe_int (pe_cal c_draw hr_draw pass0 (pa_cons (pv 0) (pa_cons (pv 1) pa_nil)))))
      (pss_cons (ps_set (i := 3) scSome_program.nd rfl (by first | exact Or.inl rfl | exact Or.inr rfl) (pe_cal c_names hr_names pass0 (pa_cons (pv 0) (pa_cons (pv 2) pa_nil))))
      (pss_cons (ps_set (i := 4) scSome_program.nd rfl (by first | exact Or.inl rfl | exact Or.inr rfl) (pe_cal c_names hr_names pass0 (pa_cons (pv 0) (pa_cons (pe_ix (ixl K) (pe_lst (pa_cons pe_int (pa_cons pe_int (pa_cons pe_int (pa_cons pe_int (pa_cons pe_int (pa_cons pe_int (pa_cons pe_int (pa_cons pe_int pa_nil))))))))) (pe_cal c_draw hr_draw pass0 (pa_cons (pv 0) (pa_cons pe_int pa_nil))) (fun _ _ => rfl)) pa_nil))))
      (pss_cons (ps_set (i := 5) scSome_program.nd rfl (by first | exact Or.inl rfl | exact Or.inr rfl) (pe_cal c_draw hr_draw pass0 (pa_cons (pv 0) (pa_cons pe_int pa_nil))))
      (pss_cons (ps_set (i := 6) scSome_program.nd rfl (by first | exact Or.inl rfl | exact Or.inr rfl) (pe_lst pa_nil))
      (pss_cons (ps_for PassesOwn.never rfl (pi_range1 (by rfl) mRange (pa_cons (pv 2) pa_nil)) (pg_name (i := 7) scSome_program.nd rfl (by first | exact Or.inl rfl | exact Or.inr rfl))
        (pss_cons (ps_setLc (i := 8) (own := [("_law_step_here", 10)]) (g := (gName 10)) (tt := tYes) rfl scSome_program.nd rfl rfl (sw_true rfl rfl rfl (by decide +kernel)) (pi_range1 (by rfl) mRange (pa_cons (pe_cal c_draw hr_draw pass0 (pa_cons (pv 0) (pa_cons pe_int pa_nil))) pa_nil)) (blkOk_by (own := [("_law_step_here", 10)]) (N := ["_law_source_here", "_law_most", "_law_many", "_law_names_here", "_law_places", "_law_ring", "_law_procedures", "_law_k", "_law_body", "_law_kind", "_law_step_here"]) (sc := defScope sSome_program) (by decide +kernel)) (fun _ _ _ _ _ => (pg_name (i := 10) scSome_program.nd rfl (by first | exact Or.inl rfl | exact Or.inr rfl))) (fun _ _ _ _ _ => pts_nil) (fun _ _ _ _ _ => (pe_cal c_step hr_step pass0 (pa_cons (pv 0) (pa_cons (pv 3) (pa_cons (pv 4) pa_nil))))))
        (C8.pss_cut (ps_if (pt_cmpR op_gt (pv 5) pe_int (nomark _))
          (pss_cons (ps_set (i := 9) scSome_program.nd rfl (by first | exact Or.inl rfl | exact Or.inr rfl) (pe_ix (ixl K) (pe_lst (pa_cons pe_str (pa_cons pe_str pa_nil))) (pe_cal c_draw hr_draw pass0 (pa_cons (pv 0) (pa_cons pe_int pa_nil))) (fun _ _ => rfl)))
          (pss_one (ps_expr (pe_bm PySem.F.plainAttrs_list PySem.F.slot_list_insert PySem.F.type_list_insert mt_insert (pv 8) (pa_cons (pe_cal c_draw hr_draw pass0 (pa_cons (pv 0) (pa_cons (pe_op op_add (pe_callB (k_len K) (by rfl) mLen (by decide +kernel) (pa_cons (pv 8) pa_nil)) pe_int) pa_nil))) (pa_cons (pe_tup (pa_cons (pv 9) (pa_cons (pe_ix (ixl K) (pv 3) (pe_op op_mod (pe_callTy call_int1 (by rfl) mInt (by decide +kernel) (pa_cons (pe_op op_add (pv 7) pe_int) pa_nil)) (pv 2)) (fun _ _ => rfl)) pa_nil))) pa_nil)))))) pss_nil)
        (pss_one (ps_expr (pe_bm PySem.F.plainAttrs_list PySem.F.slot_list_append PySem.F.type_list_append mt_append (pv 6) (pa_cons (pe_tup (pa_cons (pe_ix (ixl K) (pv 3) (pv 7) (fun _ _ => rfl)) (pa_cons (pv 8) pa_nil))) pa_nil)))))))
      (pss_one (ps_ret (pv 6))))))))), ?_⟩
    refine ⟨_, rfl, _, rfl, a, most, n + 999, rfl, by omega, (Nat.lt_trans (by omega : most.natAbs < 7) (by decide)), S, fun v H1 v0 v1 k1 S1 => ⟨_, _, rfl, rfl, ?_⟩⟩
    obtain ⟨many, em⟩ : ∃ many : Nat, 1 + v = (many : Int) := ⟨(1 + v).toNat, by omega⟩
    show gName 2 (.int (1 + v)) _ _ _
    rw [em]
    have ml : 1 ≤ many ∧ many ≤ 6 := by omega
    refine ⟨_, rfl, _, rfl, a, many, n + 900, rfl, by omega, S1.mono (by omega), fun nl ns H2 lns nd nm nnl h2 k2 S2 => ?_⟩
    refine ⟨_, rfl, (by show 8 ≤ sizeLine; decide), fun l hl => ⟨_, rfl, a, 8, n + 899, rfl, by decide, by decide, S2.new hl, fun u H3 u0 u1 k3 S3 => ?_⟩⟩
    obtain ⟨pm, hm, pm3⟩ := places_at u0 u1
    refine ⟨l, _, u, _, rfl, rfl, .of (k3 _ _ (S2.ne hl) upd_same), hm, ?_⟩
    have k3 : Kp a H2 H3 := (Kp.new hl).trans k3
    refine ⟨a, pm, n + 800, rfl, by omega, S3.mono (by omega), fun pl ps H4 lps ndp nmp npl h4 k4 S4 => ?_⟩
    refine ⟨_, rfl, a, 4, n + 799, rfl, by decide, by decide, S4, fun ring H5 r0 r1 k5 S5 => ?_⟩
    refine ⟨(by show 0 ≤ sizeLine; decide), fun p np => ?_⟩
    have hn5 : H5 nl = some (.lst (ns.map V.str)) := k5 _ _ (strs_ne S4 (k4 _ _ (strs_ne S3 (k3 _ _ (strs_ne S2 h2) h2)) (k3 _ _ (strs_ne S2 h2) h2))) (k4 _ _ (strs_ne S3 (k3 _ _ (strs_ne S2 h2) h2)) (k3 _ _ (strs_ne S2 h2) h2))
    have hp5 : H5 pl = some (.lst (ps.map V.str)) := k5 _ _ (strs_ne S4 h4) h4
    have k05 : Kp a H H5 := (((k1.trans k2).trans k3).trans k4).trans k5
    have np0 : H p = none := k05.free S np S5
    have pa : p ≠ a := S5.ne np
    have ne : ns ≠ [] := fun e => by rw [e] at lns; simp at lns; omega
    refine ⟨_, rfl, (many : Int), rfl, by omega, by omega, ?_⟩
    refine for_range (lo := 0) (n := many) (fun i σ H' => ∃ (qs : List Addr) (rs : List Pr) (vk vb vc vs : Option V), σ = [some (.ref a), some (.int most), some (.int many), some (.ref nl), some (.ref pl), some (.int ring), some (.ref p), vk, vb, vc, vs] ∧ rs.map Pr.name = ns.take i ∧
        H' p = some (.lst (qs.map V.ref)) ∧ Paired (PrL H') qs rs ∧ (∀ r ∈ rs, r.b ≠ p ∧ H r.b = none ∧ r.ss.length ≤ 12 ∧ ∀ s ∈ r.ss, GoodS ns s) ∧ Kp a H H' ∧ H' nl = some (.lst (ns.map V.str)) ∧ H' pl = some (.lst (ps.map V.str)) ∧ Src H' a (n + 100 * (many - i)) ∧ qs.length = i)
      ⟨[], [], none, none, none, none, rfl, rfl, upd_same, .nil, (by simp), k05.trans (Kp.new np), by rw [upd_ne (Ne.symm (ne_none np hn5))]; exact hn5, by rw [upd_ne (Ne.symm (ne_none np hp5))]; exact hp5, (S5.new np).mono (by omega), rfl⟩ ?_ ?_
    · rintro i σ H6 hi ⟨qs, rs, vk, vb, vc, vs, rfl, en, hP, pr, gd, k6, hn, hq, S6, lq⟩
      refine ⟨_, rfl, a, 4, n + 100 * (many - (i + 1)) + 90, rfl, by decide, by decide, S6.mono (by omega), fun u H7 u0 u1 k7 S7 => ?_⟩
      refine ⟨u, rfl, by omega, by omega, fun D hD => ?_⟩
      have hn7 := k7 _ _ (strs_ne S6 hn) hn
      have hq7 := k7 _ _ (strs_ne S6 hq) hq
      have hP7 := k7 _ _ pa hP
      have pr7 : Paired (PrL H7) qs rs := paired_same pr fun _ _ q => q.kp k7 S6
      have nD : H D = none := (k6.trans k7).free S hD S7
      have Dp : D ≠ p := ne_none hD hP7
      have Da : D ≠ a := S7.ne hD
      refine steps_lc (i := 10) (x := 3) (y := 4) (n := n + 100 * (many - (i + 1)) + 50) (m := u.toNat) (fun _ => rfl) (fun _ => rfl) (fun _ => rfl) (fun _ => rfl) hD (S7.mono (by omega)) hn7 hq7 ne nm nmp (by omega) (by omega) (by omega) fun ts ss H8 lt st gs h8 k8 S8 => ?_
      have hn8 := k8 _ _ (strs_ne S7 hn7) hn7
      have hP8 := k8 _ _ pa hP7
      -- behind the ring's step
      refine ⟨fun σ' H' => ∃ (ts : List Addr) (ss : List Step) (vc vs : Option V), σ' = [some (.ref a), some (.int most), some (.int many), some (.ref nl), some (.ref pl), some (.int ring), some (.ref p), some (.int (0 + (i : Nat))), some (.ref D), vc, vs] ∧ ss.length ≤ 12 ∧ StA H' ts ss ∧ (∀ s ∈ ss, GoodS ns s) ∧
        H' D = some (.lst (ts.map V.ref)) ∧ Kp a H7 H' ∧ Src H' a (n + 100 * (many - (i + 1))), ?_, ?_⟩
      · have ls : ss.length ≤ 3 := by have := Paired.length st; omega
        have lts : ts.length ≤ 3 := by omega
        refine ⟨_, rfl, _, _, rfl, rfl, _, rfl, ite2 (fun _ => ?_) fun _ => ⟨ts, ss, vc, vs, rfl, by omega, st, gs, h8, k8, S8.mono (by omega)⟩⟩
        have hm : ((0 + (i : Nat) + 1 : Int) % (many : Int)) = (((i + 1) % many : Nat) : Int) := by
          rw [show (0 + (i : Nat) + 1 : Int) = ((i + 1 : Nat) : Int) by omega]
          rfl
        have hlt : (i + 1) % many < ns.length := by rw [lns]; exact Nat.mod_lt _ (by omega)
        obtain ⟨z, hz, ez⟩ := atI_str (zs := ns) (v := ((i + 1) % many : Nat)) (by omega) (by omega)
        refine ⟨(by show 2 ≤ sizeLine; decide), fun l2 hl2 => ⟨_, rfl, a, 2, n + 100 * (many - (i + 1)) + 49, rfl, by decide, by decide, S8.new hl2, fun u2 H9 u20 u21 k9 S9 => ?_⟩⟩
        obtain ⟨kd, hkd, ekd⟩ := atI_str (zs := calling) (v := u2) u20 (by show u2 < 2; omega)
        refine ⟨l2, _, u2, _, rfl, rfl, .of (k9 _ _ (S8.ne hl2) upd_same), ekd, ?_⟩
        have k9 : Kp a H8 H9 := (Kp.new hl2).trans k9
        have h9 := k9 _ _ Da h8
        have hn9 := k9 _ _ (strs_ne S8 hn8) hn8
        have st9 := st.sameN (k9.noL S8)
        refine ⟨_, rfl, .inl ⟨rfl, _, .of h9⟩, _, rfl, _, rfl, D, _, rfl, .inl (.of h9), _, _, rfl, rfl, a, _, n + 100 * (many - (i + 1)) + 48, rfl, ?_, ?_, S9.mono (by omega), fun at_ HA w0 w1 kA SA => ?_⟩
        · omega
        · rw [List.length_map]
          exact Nat.lt_trans (by omega : (((ts.length : Nat) : Int) + 1).natAbs < 7) (by decide)
        rw [List.length_map] at w1
        have hA := kA _ _ Da h9
        have hnA := kA _ _ (strs_ne S9 hn9) hn9
        have stA := st9.sameN (kA.noL S9)
        refine ⟨_, rfl, _, rfl, _, rfl, _, _, rfl, rfl, .inl ⟨_, rfl, _, rfl, _, _, rfl, rfl, by omega, nl, _, _, _, rfl, rfl, .of hnA, (by rw [hm]; exact ez), (by show 2 ≤ sizeLine; decide), fun t ht => ?_⟩⟩
        have sT := Same.new (o := .tup [.str kd, .str z]) ht
        have hAt := sT _ _ hA
        have tD : t ≠ D := ne_none ht hA
        refine ⟨D, _, at_, _, rfl, rfl, hAt, ?_, w0, by omega, ?_⟩
        · rw [List.length_map]; exact Nat.lt_of_lt_of_le (by omega : ts.length < 12) (by decide)
        have e1 : (ts.map V.ref).take at_.toNat ++ [V.ref t] ++ (ts.map V.ref).drop at_.toNat = (ts.take at_.toNat ++ [t] ++ ts.drop at_.toNat).map V.ref := by
          rw [List.map_append, List.map_append, List.map_take, List.map_drop]; rfl
        refine ⟨ts.take at_.toNat ++ [t] ++ ts.drop at_.toNat, ss.take at_.toNat ++ [((kd, z) : Step)] ++ ss.drop at_.toNat, _, _, rfl, ?_, ?_, fun s hs => ?_, ?_, ((k8.trans (k9.trans kA)).trans (Kp.new ht)).mut hD, ((SA.mono (by omega)).new ht).put Da⟩
        · rw [List.length_append, List.length_append, List.length_take, List.length_drop]
          show _ + 1 + _ ≤ 12
          omega
        · have sp := SameN.refl.put (o := .lst ((ts.map V.ref).take at_.toNat ++ [V.ref t] ++ (ts.map V.ref).drop at_.toNat)) hAt
          have stt := stA.same sT
          exact StA.sameN (paired_app (paired_app (paired_take stt _) (.cons upd_same .nil)) (paired_drop stt _)) sp
        · rcases List.mem_append.mp hs with hs | hs
          · rcases List.mem_append.mp hs with hs | hs
            · exact gs s (List.mem_of_mem_take hs)
            · rw [List.mem_singleton.mp hs]; exact ⟨stepB_of (calling_kinds kd hkd) (nm z hz), fun _ => hz⟩
          · exact gs s (List.mem_of_mem_drop hs)
        · rw [upd_same, e1]
      · rintro σ' H9 ⟨ts, ss, vc, vs, rfl, ls, st, gs, h9, k9, S9⟩
        have hn9 := k9 _ _ (strs_ne S7 hn7) hn7
        have hP9 := k9 _ _ pa hP7
        have pr9 : Paired (PrL H9) qs rs := paired_same pr7 fun _ _ q => q.kp k9 S7
        have hz : ns[i]? = some ns[i] := List.getElem?_eq_getElem (by omega)
        refine ⟨_, rfl, .inl ⟨rfl, _, .of hP9⟩, _, rfl, _, rfl, nl, _, _, _, rfl, rfl, .of hn9, (by rw [show (0 + (i : Nat) : Int) = ((i : Nat) : Int) by omega]; exact atI_nat (by rw [List.getElem?_map, hz]; rfl)), _, rfl, (by show 2 ≤ sizeLine; decide), fun t ht => ?_⟩
        have s9 := Same.new (o := .tup [.str ns[i], .ref D]) ht
        refine ⟨p, _, _, rfl, rfl, s9 _ _ hP9, ?_, qs ++ [t], rs ++ [⟨ns[i], D, ts, ss⟩], _, _, _, _, rfl, ?_, by rw [upd_same, List.map_append]; rfl, ?_, fun r hr => ?_, ?_, ?_, ?_, (S9.new ht).put pa, by rw [List.length_append, lq]; rfl⟩
        · rw [List.length_map, lq]; exact Nat.lt_of_lt_of_le (by omega : i < 12) (by decide)
        · rw [List.map_append, en, List.take_add_one, hz]; rfl
        · refine paired_snoc ?_ ⟨?_, ?_, ?_⟩
          · have pr9' : Paired (fun q r => PrL H9 q r ∧ r ∈ rs) qs rs := paired_mem pr9
            exact paired_same pr9' fun q r hqr => (hqr.1.same s9).put (s9 _ _ hP9) (gd r hqr.2).1
          · rw [upd_ne (ne_none ht hP9)]; exact upd_same
          · rw [upd_ne Dp]; exact s9 _ _ h9
          · exact (st.same s9).sameN (SameN.refl.put (s9 _ _ hP9))
        · rcases List.mem_append.mp hr with hr | hr
          · exact gd r hr
          · rw [List.mem_singleton.mp hr]; exact ⟨Dp, nD, ls, gs⟩
        · exact ((((k6.trans k7).trans k9).trans (Kp.new ht)).mut np0)
        · rw [upd_ne (Ne.symm (ne_none np hn5))]; exact s9 _ _ hn9
        · rw [upd_ne (Ne.symm (ne_none np hp5))]; exact s9 _ _ (k9 _ _ (strs_ne S7 hq7) hq7)
    · rintro σ H6 ⟨qs, rs, vk, vb, vc, vs, rfl, en, hP, pr, gd, k6, hn, hq, S6, lq⟩
      rw [← lns, List.take_length] at en
      exact ⟨_, rfl, k p qs rs H6 ⟨hP, pr⟩ (rightP_of en nd (by omega) ne nm fun r hr => (gd r hr).2.2) (by have := congrArg List.length en; rw [List.length_map] at this; omega) np0 (fun r hr => (gd r hr).2.1) k6 (S6.mono (by omega))⟩
end
end Mf
namespace Mf
open PySem L2
section
variable {P : Program} {w : World} {K : PySem.W.Frag} {mg : Str → Option Value} {base : Heap} {Cp C : Addr}
/-! ### names and kinds as texts -/
theorem kind_plain {z : Str} (h : z ∈ kinds) : Plain z ∧ z.length ≤ 8 := by
  have e : ∀ z ∈ kinds, (∀ c ∈ TL.tl z, 97 ≤ c ∧ c ≤ 122) ∧ z.length ≤ 8 := by decide +kernel
  exact e z h
theorem Right.plain {r : Pr} (h : Right r) : Plain r.name ∧ ∀ s ∈ r.ss, Plain s.1 ∧ Plain s.2 := ⟨h.1.plain, fun s hs => ⟨(kind_plain (stepB_kind (bodyB_st h.2.1 s hs))).1, (stepB_name (bodyB_st h.2.1 s hs)).plain⟩⟩
theorem Right.short {r : Pr} (h : Right r) : ∀ s ∈ r.ss, Short s := fun s hs => ⟨(kind_plain (stepB_kind (bodyB_st h.2.1 s hs))).2, (stepB_name (bodyB_st h.2.1 s hs)).len⟩
/-! ### _line -/
def spLine (K : PySem.W.Frag) : Sp := fun vs H Q _ => ∃ (n : Str) (b : Addr) (ts : List Addr) (ss : List Step), vs = [.str n, .ref b] ∧ (SqL K H b (ts.map V.ref) ∨ SqT K H b (ts.map V.ref)) ∧ StA H ts ss ∧ n.length ≤ 8 ∧ ss.length ≤ 12 ∧ (∀ s ∈ ss, Short s) ∧ ∀ H', Same H H' → Q (.str (lineT n ss)) H'
abbrev sLine : Stmt := top 21
theorem scLine : FnScope ["name", "body", "kind", "word"] ["name", "body"] (defScope sLine) := ⟨rfl, rfl, rfl, by decide +kernel, rfl, by decide +kernel, by decide +kernel⟩
theorem ok_line {f : Addr} {fd : FuncData} (F : Fun K "_line" "_line" sLine f fd) : FnOk P w K mg base CX0 1 f fd ["name", "body"] (spLine K) := by
  refine F.ok scLine (fun vs H Q E h => ?_) (fun cdv A outer s H vs Q E hr h => ?_)
  · obtain ⟨n, b, ts, ss, rfl, _⟩ := h
    rfl
  · obtain ⟨n, b, ts, ss, rfl, hb, st, ln, ls, sh, k⟩ := h
    refine ⟨_, (pss_one (ps_ret (pe_op op_add_str (pe_op op_add_str (pv 0) pe_str) (pe_join pe_str (pe_lc (own := [("kind", 2), ("word", 3)]) (g := (gTup K 2 (gCons (gName 2) (gCons (gName 3) gNil)))) (tt := tYes) rfl scLine.nd (piS K (pv 1)) (blkOk_by (own := [("kind", 2), ("word", 3)]) (N := ["name", "body", "kind", "word"]) (sc := defScope sLine) (by decide +kernel)) (fun _ _ _ _ _ => (pg_tup rfl (pgs_cons (pg_name (i := 2) scLine.nd rfl (by first | exact Or.inl rfl | exact Or.inr rfl)) (pgs_cons (pg_name (i := 3) scLine.nd rfl (by first | exact Or.inl rfl | exact Or.inr rfl)) pgs_nil)))) (fun _ _ _ _ _ => pts_nil) (fun _ _ _ _ _ => (pe_jn (.cons pe_str (.cons (pe_fmt (pv 2)) (.cons pe_str (.cons (pe_fmt (pv 3)) .nil))))))))))), ?_⟩
    have lt : ts.length = ss.length := Paired.length st
    have big : (5000 : Nat) < sizeLine := by decide
    refine ⟨_, rfl, _, _, rfl, rfl, (by show n.length + 1 ≤ sizeLine; omega), ⟨_, rfl⟩, ?_⟩
    refine ⟨_, rfl, b, _, rfl, hb, fun J G wk hG D hD => ?_⟩
    refine lc_it wk (fun i H' => Same H H' ∧ H' D = some (.lst (((ss.take i).map stepT).map V.str))) ⟨Same.new hD, upd_same⟩ (fun i H' _ q => hG _ q.1) ?_ ?_
    · rintro i x _ H1 hi ⟨s1, h1⟩ ⟨rfl, hx⟩
      rw [List.getElem?_map] at hx
      obtain ⟨t, ht, rfl⟩ := Option.map_eq_some_iff.mp hx
      obtain ⟨sp, hsp, hts⟩ := st.get ht
      have tk : ss.take (i + 1) = ss.take i ++ [sp] := by rw [List.take_add_one, hsp]; rfl
      have sh1 := sh sp (List.mem_of_getElem? hsp)
      have l4 := step_len sh1
      refine ⟨t, _, rfl, .of (s1 _ _ hts), rfl, _, _, rfl, _, _, rfl, rfl, rfl, yes_then ?_⟩
      have a1 := sh1.1; have a2 := sh1.2
      have e0 := em_len; have e1 := sp_len
      refine ⟨_, rfl, (by rw [app_len]; omega), _, rfl, .inl ⟨_, rfl, by omega, _, rfl, (by rw [app_len, app_len]; omega), _, rfl, (by rw [app_len, app_len, app_len]; omega), _, rfl, .inl ⟨_, rfl, by omega, _, rfl, (by rw [app_len, app_len, app_len, app_len]; omega), ?_⟩⟩⟩
      refine ⟨_, h1, ?_, s1.mut hD, by rw [upd_same, tk, List.map_append, List.map_append]; rfl⟩
      rw [List.length_map, List.length_map]
      exact Nat.lt_of_le_of_lt (List.length_take_le _ _) (by rw [List.length_map, lt] at hi; omega)
    · rintro H1 ⟨s1, h1⟩
      rw [List.length_map, lt, List.take_length] at h1
      have a := sum_le (k := 18) (ys := ss.map stepT) fun y hy => by
        obtain ⟨s, hs, rfl⟩ := List.mem_map.mp hy
        exact step_len (sh s hs)
      rw [List.length_map] at a
      have c1 : ("," : Str).length = 1 := by decide +kernel
      refine ⟨_, D, ss.map stepT, rfl, rfl, .inl (.of h1), (by rw [List.length_map, c1]; omega), _, _, rfl, rfl, ?_, k H1 s1⟩
      have q := line_len ln ls sh
      unfold lineT at q
      rw [app_len] at q
      omega
/-! ### Program.text -/
theorem textT_all {rs : List Pr} (R : RightP rs) : ∀ y ∈ pls rs, y.1.length ≤ 8 ∧ y.2.length ≤ 12 ∧ ∀ s ∈ y.2, Short s := fun y hy => by
  obtain ⟨r, hr, rfl⟩ := List.mem_map.mp hy
  exact ⟨(R.ri r hr).1.len, bodyB_len (R.ri r hr).2.1, (R.ri r hr).short⟩
theorem pls_len' (rs : List Pr) : (pls rs).length = rs.length := List.length_map _
def spText (K : PySem.W.Frag) (Cp : Addr) : Sp := fun vs H Q _ => ∃ (p : Addr) (rs : List Pr), vs = [.ref p] ∧ Prg K Cp H p rs ∧ ∀ H', Same H H' → Q (.str (textT (pls rs))) H'
abbrev sProgramText : Stmt := inClass (top 15) 2
theorem scProgramText : FnScope ["self", "name"] ["self"] (defScope sProgramText) := ⟨rfl, rfl, rfl, by decide +kernel, rfl, by decide +kernel, by decide +kernel⟩
theorem ok_text {f : Addr} {fd : FuncData} (F : Fun K "text" "Program.text" sProgramText f fd) (T : PgC K mg Cp) (c__line : Cal P w K mg base CX0 1 "_line" ["name", "body"] (spLine K)) : FnOk P w K mg base CX0 2 f fd ["self"] (spText K Cp) := by
  refine F.ok scProgramText (fun vs H Q E h => ?_) (fun cdv A outer s H vs Q E hr h => ?_)
  · obtain ⟨p, rs, rfl, _⟩ := h
    rfl
  · obtain ⟨p, rs, rfl, ⟨dx, d, n, q, us, pl, x, R, up, m⟩, k⟩ := h
    have hu : (A.deeper (PyProof.Rows.envOfC "Program.text" (defScope sProgramText) s.heap.objs.size f cdv)).units + 1 < cLine := by have := hr.units; omega
    have hr__line := hr
    refine ⟨_, (pss_one (ps_ret (pe_join pe_str (pe_lc (own := [("name", 1)]) (g := (gName 1)) (tt := tYes) rfl scProgramText.nd (pi_tup (fldK K (pv 0))) (blkOk_by (own := [("name", 1)]) (N := ["self", "name"]) (sc := defScope sProgramText) (by decide +kernel)) (fun _ _ _ _ _ => (pg_name (i := 1) scProgramText.nd rfl (by first | exact Or.inl rfl | exact Or.inr rfl))) (fun _ _ _ _ _ => pts_nil) (fun _ _ _ _ _ => (pe_cal c__line hr__line pass0 (pa_cons (pv 1) (pa_cons (pe_dget hu (fldK K (pv 0)) (pv 1) (fun _ _ => rfl)) pa_nil)))))))), ?_⟩
    have big : (5000 : Nat) < sizeLine := by decide
    have ln : us.length = rs.length := Paired.length x.bo
    refine ⟨⟨_, rfl⟩, _, rfl, p, Cp, dx, _, _, rfl, x.o, T.ins.cl, T.nN, flP_n d n q, n, rfl, ⟨_, .of x.n⟩, fun D hD => ?_⟩
    refine lc_it walk_tup (fun i H' => Same H H' ∧ H' D = some (.lst (((rs.take i).map fun r => lineT r.name r.ss).map V.str))) ⟨Same.new hD, upd_same⟩ (fun i H' _ q => .of (q.1 _ _ x.n)) ?_ ?_
    · rintro i y _ H1 hi ⟨s1, h1⟩ ⟨rfl, hx⟩
      rw [List.getElem?_map, List.getElem?_map] at hx
      obtain ⟨z, hz, rfl⟩ := Option.map_eq_some_iff.mp hx
      obtain ⟨r, hr', rfl⟩ := Option.map_eq_some_iff.mp hz
      have rm := List.mem_of_getElem? hr'
      obtain ⟨j, u, h2, h3, h4⟩ := kvs_val ln R.nd rm
      obtain ⟨r2, h5, h6⟩ := paired_get x.bo h3
      rw [h2] at h5
      cases h5
      have tk : rs.take (i + 1) = rs.take i ++ [r] := by rw [List.take_add_one, hr']; rfl
      have ri := R.ri r rm
      refine ⟨rfl, yes_then ?_⟩
      refine ⟨_, rfl, _, rfl, p, Cp, dx, _, _, rfl, s1 _ _ x.o, T.ins.cl, T.nB, flP_b d n q, _, rfl, d, _, rfl, .inl ⟨_, Sum.inr r.name, .inl (s1 _ _ x.b), rfl, h4.symm⟩, ?_⟩
      refine ⟨r.name, u, r.ts, r.ss, rfl, .inr (s1.tup h6), (x.st r rm).same s1, ri.1.len, bodyB_len ri.2.1, ri.short, fun H2 s2 => ⟨_, s2 _ _ h1, ?_, (s1.trans s2).mut hD, by rw [upd_same, tk, List.map_append, List.map_append]; rfl⟩⟩
      rw [List.length_map, List.length_map]
      have := R.few
      exact Nat.lt_of_le_of_lt (List.length_take_le _ _) (by rw [List.length_map, List.length_map] at hi; omega)
    · rintro H1 ⟨s1, h1⟩
      rw [List.length_map, List.length_map, List.take_length] at h1
      have a := sum_le (k := 240) (ys := rs.map fun r => lineT r.name r.ss) fun y hy => by
        obtain ⟨r, hr, rfl⟩ := List.mem_map.mp hy
        exact line_len (R.ri r hr).1.len (bodyB_len (R.ri r hr).2.1) (R.ri r hr).short
      rw [List.length_map] at a
      have c1 : ("\n" : Str).length = 1 := by decide +kernel
      have few := R.few
      refine ⟨_, D, rs.map fun r => lineT r.name r.ss, rfl, rfl, .inl (.of h1), (by rw [List.length_map, c1]; omega), ?_⟩
      have e : rs.map (fun r => lineT r.name r.ss) = (pls rs).map fun y => lineT y.1 y.2 := by unfold pls; rw [List.map_map]; rfl
      rw [e]
      exact k H1 s1
end
end Mf
namespace Mf
open PySem L2
section
variable {P : Program} {w : World} {K : PySem.W.Frag} {mg : Str → Option Value} {base : Heap} {Cp C : Addr}
/-! ### reads first -/
def isR (s : Step) : Bool := decide (s.1 = ("read" : Str))
def rf (ss : List Step) : List Step := ss.filter isR ++ ss.filter fun s => !isR s
theorem rf_len (ss : List Step) : (rf ss).length = ss.length := by
  unfold rf
  rw [List.length_append]
  induction ss with
  | nil => rfl
  | cons s ss ih =>
    rw [List.filter_cons, List.filter_cons]
    cases isR s
    · simp only [Bool.not_false, if_true, Bool.false_eq_true, if_false, List.length_cons]; omega
    · simp only [Bool.not_true, if_true, Bool.false_eq_true, if_false, List.length_cons]; omega
theorem rf_mem {ss : List Step} {s : Step} (h : s ∈ rf ss) : s ∈ ss := by
  rcases List.mem_append.mp h with h | h
  · exact (List.mem_filter.mp h).1
  · exact (List.mem_filter.mp h).1
theorem rf_rf (ss : List Step) : rf (rf ss) = rf ss := by
  unfold rf
  rw [List.filter_append, List.filter_append, List.filter_filter, List.filter_filter, List.filter_filter, List.filter_filter]
  have e1 : ss.filter (fun s => isR s && isR s) = ss.filter isR := by congr 1; funext s; cases isR s <;> rfl
  have e2 : ss.filter (fun s => isR s && !isR s) = [] := List.filter_eq_nil_iff.mpr fun s _ => by cases isR s <;> simp
  have e3 : ss.filter (fun s => (!isR s) && isR s) = [] := List.filter_eq_nil_iff.mpr fun s _ => by cases isR s <;> simp
  have e4 : ss.filter (fun s => (!isR s) && !isR s) = ss.filter (fun s => !isR s) := by congr 1; funext s; cases isR s <;> rfl
  rw [e1, e2, e3, e4, List.append_nil, List.nil_append]
def rfP (y : Pc) : Pc := (y.1, rf y.2)
theorem rfP_rfP (ys : List Pc) : (ys.map rfP).map rfP = ys.map rfP := by
  rw [List.map_map]
  refine List.map_congr_left fun y _ => ?_
  show (y.1, rf (rf y.2)) = (y.1, rf y.2)
  rw [rf_rf]
theorem rfP_nms (ys : List Pc) : (ys.map rfP).map (·.1) = ys.map (·.1) := by rw [List.map_map]; rfl
theorem rightP_rf {rs es : List Pr} (e : pls es = (pls rs).map rfP) (R : RightP rs) : RightP es := by
  have l : es.length = rs.length := by have := congrArg List.length e; simpa [pls] using this
  have n : es.map Pr.name = rs.map Pr.name := by rw [← pls_names, ← pls_names, e, rfP_nms]
  have back : ∀ r ∈ es, ∃ q ∈ rs, q.name = r.name ∧ rf q.ss = r.ss := fun r hr => by
    have m := pls_mem hr
    rw [e] at m
    obtain ⟨y, hy, h1⟩ := List.mem_map.mp m
    obtain ⟨q, hq, rfl⟩ := List.mem_map.mp hy
    exact ⟨q, hq, congrArg Prod.fst h1, congrArg Prod.snd h1⟩
  refine ⟨by rw [l]; exact R.few, fun z => R.ne (List.length_eq_zero_iff.mp (by rw [← l, z]; rfl)), by rw [n]; exact R.nd, fun r hr => ?_, fun r hr s hs hc => ?_⟩
  · obtain ⟨q, hq, h1, h2⟩ := back r hr
    have R1 := R.ri q hq
    unfold Right at R1 ⊢
    rw [← h1, ← h2]
    refine ⟨R1.1, ?_, fun s hs => R1.2.2 s (rf_mem hs)⟩
    unfold bodyB
    rw [rf_len, decide_eq_true (bodyB_len R1.2.1), Bool.true_and]
    exact List.all_eq_true.mpr fun s hs => bodyB_st R1.2.1 s (rf_mem hs)
  · obtain ⟨q, hq, h1, h2⟩ := back r hr
    rw [n]
    exact R.ca q hq s (rf_mem (by rw [h2]; exact hs)) hc
theorem isR_v (sp : Step) : decide (V.str sp.1 = V.str "read") = isR sp := decide_eq_decide.mpr ⟨fun h => V.str.inj h, fun h => by rw [h]⟩
def spRF (K : PySem.W.Frag) : Sp := fun vs H Q _ => ∃ (b : Addr) (ts : List Addr) (ss : List Step), vs = [.ref b] ∧ (SqL K H b (ts.map V.ref) ∨ SqT K H b (ts.map V.ref)) ∧ StA H ts ss ∧ ss.length ≤ 12 ∧
  ∀ q ts' H', H q = none → H' q = some (.lst (ts'.map V.ref)) → StA H' ts' (rf ss) → Same H H' → Q (.ref q) H'
abbrev sRFirst : Stmt := top 24
theorem scRFirst : FnScope ["body", "step"] ["body"] (defScope sRFirst) := ⟨rfl, rfl, rfl, by decide +kernel, rfl, by decide +kernel, by decide +kernel⟩
theorem ok_rfirst {f : Addr} {fd : FuncData} (F : Fun K "_reads_first" "_reads_first" sRFirst f fd) : FnOk P w K mg base CX0 1 f fd ["body"] (spRF K) := by
  refine F.ok scRFirst (fun vs H Q E h => ?_) (fun cdv A outer s H vs Q E hr h => ?_)
  · obtain ⟨b, ts, ss, rfl, _⟩ := h
    rfl
  · obtain ⟨b, ts, ss, rfl, hb, st, ls, k⟩ := h
    refine ⟨_, (pss_one (ps_ret (pe_op op_cat (pe_lc (own := [("step", 1)]) (g := (gName 1)) rfl scRFirst.nd (piS K (pv 0)) (blkOk_by (own := [("step", 1)]) (N := ["body", "step"]) (sc := defScope sRFirst) (by decide +kernel)) (fun _ _ _ _ _ => (pg_name (i := 1) scRFirst.nd rfl (by first | exact Or.inl rfl | exact Or.inr rfl))) (fun _ _ _ _ _ => pts_one (pt_cmpR op_eq (pe_ix (ixt K) (pv 1) pe_int (fun _ _ => rfl)) pe_str (nomark _))) (fun _ _ _ _ _ => (pv 1))) (pe_lc (own := [("step", 1)]) (g := (gName 1)) rfl scRFirst.nd (piS K (pv 0)) (blkOk_by (own := [("step", 1)]) (N := ["body", "step"]) (sc := defScope sRFirst) (by decide +kernel)) (fun _ _ _ _ _ => (pg_name (i := 1) scRFirst.nd rfl (by first | exact Or.inl rfl | exact Or.inr rfl))) (fun _ _ _ _ _ => pts_one (pt_cmpR op_ne (pe_ix (ixt K) (pv 1) pe_int (fun _ _ => rfl)) pe_str (nomark _))) (fun _ _ _ _ _ => (pv 1)))))), ?_⟩
    have lt : ts.length = ss.length := Paired.length st
    have step : ∀ {i : Nat} {x : V} {H1 : Hp}, Same H H1 → (ts.map V.ref)[i]? = some x → ∃ t sp, x = .ref t ∧ ss[i]? = some sp ∧ H1 t = some (.tup [.str sp.1, .str sp.2]) := fun {i x H1} s1 hx => by
      rw [List.getElem?_map] at hx
      obtain ⟨t, ht, rfl⟩ := Option.map_eq_some_iff.mp hx
      obtain ⟨sp, hsp, hts⟩ := st.get ht
      exact ⟨t, sp, rfl, hsp, s1 _ _ hts⟩
    refine ⟨_, rfl, b, _, rfl, hb, fun J G wk hG D hD => ?_⟩
    refine lc_it wk (fun i H' => ∃ us, Same H H' ∧ H' D = some (.lst (us.map V.ref)) ∧ StA H' us ((ss.take i).filter isR)) ⟨[], Same.new hD, upd_same, .nil⟩ (fun i H' _ q => hG _ q.choose_spec.1) ?_ ?_
    · rintro i x _ H1 hi ⟨us, s1, h1, su⟩ ⟨rfl, hx⟩
      rw [List.length_map, lt] at hi
      obtain ⟨t, sp, rfl, hsp, hts⟩ := step s1 hx
      have tk : ss.take (i + 1) = ss.take i ++ [sp] := by rw [List.take_add_one, hsp]; rfl
      refine ⟨rfl, _, rfl, t, _, 0, _, rfl, rfl, .of hts, rfl, rfl, _, rfl, ite2 (fun q => ?_) fun q => ?_⟩
      · have e : isR sp = true := by rw [← isR_v]; exact q
        refine ⟨_, rfl, _, h1, ?_, us ++ [t], s1.mut hD, by rw [upd_same, List.map_append]; rfl, ?_⟩
        · have := Paired.length su
          rw [List.length_map, this]
          exact Nat.lt_of_le_of_lt (Nat.le_trans (List.length_filter_le _ _) (Nat.le_trans (List.length_take_le' _ _) ls)) (by decide)
        · rw [tk, List.filter_append, List.filter_cons_of_pos e, List.filter_nil]
          exact paired_snoc (su.sameN (SameN.refl.put h1)) ((SameN.refl.put h1) _ _ noL_tup hts)
      · have e : isR sp = false := by rw [← isR_v]; exact Bool.eq_false_iff.mpr q
        refine ⟨us, s1, h1, ?_⟩
        rw [tk, List.filter_append, List.filter_cons_of_neg (by rw [e]; simp), List.filter_nil, List.append_nil]
        exact su
    · rintro H1 ⟨us, s1, h1, su⟩
      rw [List.length_map, lt, List.take_length] at su
      -- the others
      refine ⟨_, rfl, b, _, rfl, hb.elim (fun h => .inl (SameL s1 h)) (fun h => .inr (s1.tup h)), fun J G wk hG D2 hD2 => ?_⟩
      refine lc_it wk (fun i H' => ∃ ws, Same H1 H' ∧ H' D2 = some (.lst (ws.map V.ref)) ∧ StA H' ws ((ss.take i).filter fun s => !isR s)) ⟨[], Same.new hD2, upd_same, .nil⟩ (fun i H' _ q => hG _ q.choose_spec.1) ?_ ?_
      · rintro i x _ H2 hi ⟨ws, s2, h2, sw⟩ ⟨rfl, hx⟩
        rw [List.length_map, lt] at hi
        obtain ⟨t, sp, rfl, hsp, hts⟩ := step (s1.trans s2) hx
        have tk : ss.take (i + 1) = ss.take i ++ [sp] := by rw [List.take_add_one, hsp]; rfl
        refine ⟨rfl, _, rfl, t, _, 0, _, rfl, rfl, .of hts, rfl, rfl, _, rfl, ite2 (fun q => ?_) fun q => ?_⟩
        · have e : (!isR sp) = true := by rw [← isR_v]; exact q
          refine ⟨_, rfl, _, h2, ?_, ws ++ [t], s2.mut hD2, by rw [upd_same, List.map_append]; rfl, ?_⟩
          · have := Paired.length sw
            rw [List.length_map, this]
            exact Nat.lt_of_le_of_lt (Nat.le_trans (List.length_filter_le _ _) (Nat.le_trans (List.length_take_le' _ _) ls)) (by decide)
          · have e2 : List.filter (fun s => !isR s) [sp] = [sp] := by rw [List.filter_cons, if_pos e]; rfl
            rw [tk, List.filter_append, e2]
            exact paired_snoc (sw.sameN (SameN.refl.put h2)) ((SameN.refl.put h2) _ _ noL_tup hts)
        · have e : (!isR sp) = false := by rw [← isR_v]; exact Bool.eq_false_iff.mpr q
          refine ⟨ws, s2, h2, ?_⟩
          have e2 : List.filter (fun s => !isR s) [sp] = [] := by rw [List.filter_cons, if_neg (by rw [e]; simp)]; rfl
          rw [tk, List.filter_append, e2, List.append_nil]
          exact sw
      · rintro H2 ⟨ws, s2, h2, sw⟩
        rw [List.length_map, lt, List.take_length] at sw
        have h12 := s2 _ _ h1
        refine ⟨D, D2, _, _, rfl, rfl, h12, h2, ?_, fun q nq => ?_⟩
        · rw [List.length_map, List.length_map]
          have l1 := Paired.length su
          have l2 := Paired.length sw
          have m1 : us.length ≤ 12 := by rw [l1]; exact Nat.le_trans (List.length_filter_le _ _) ls
          have m2 : ws.length ≤ 12 := by rw [l2]; exact Nat.le_trans (List.length_filter_le _ _) ls
          exact Nat.le_trans (by omega : _ ≤ 24) (by decide)
        · have sq := Same.new (o := .lst (us.map V.ref ++ ws.map V.ref)) nq
          refine k q (us ++ ws) _ ?_ (by rw [upd_same, List.map_append]) (paired_app ((su.same s2).same sq) (sw.same sq)) ((s1.trans s2).trans sq)
          cases e : H q with
          | none => rfl
          | some o => rw [(s1.trans s2) _ _ e] at nq; cases nq
end
end Mf
namespace Mf
open PySem L2
section
variable {P : Program} {w : World} {K : PySem.W.Frag} {mg : Str → Option Value} {base : Heap} {Cp C : Addr}
theorem PgC.below {H : Hp} {q : Addr} {rs : List Pr} (T : PgC K mg Cp) (h : Prg K Cp H q rs) : NotBelow K Cp (.ref q) H :=
  let ⟨_, _, _, _, _, _, x, _⟩ := h
  ⟨.ref Cp, T.isi x.o, by simp [PySem.W.notFirst]⟩
theorem Prg.ins {H : Hp} {p : Addr} {rs : List Pr} (h : Prg K Cp H p rs) : ∃ dx fs, H p = some (.ins Cp dx fs) := let ⟨dx, _, _, _, _, _, x, _⟩ := h; ⟨dx, _, x.o⟩
theorem Prg.right {H : Hp} {p : Addr} {rs : List Pr} (h : Prg K Cp H p rs) : RightP rs := let ⟨_, _, _, _, _, _, _, R, _⟩ := h; R
theorem pg_same {H H' : Hp} {p dx : Addr} (hp : H p = none) (hd : H dx = none) (kp : ∀ b o, b ≠ p → (upd (upd H dx (.own p)) p (.ins C dx [])) b = some o → H' b = some o) : Same H H' :=
  fun b o e => kp b o (ne_of_none e hp) ((ns_grow hp hd) b o e)
theorem PrL.prA {H : Hp} {p : Addr} {r : Pr} (x : PrL H p r) : PrA K H p r := ⟨.of x.1, .inl (.of x.2.1), x.2.2⟩
theorem LisP.prA {H : Hp} {a : Addr} {ps : List Addr} {rs : List Pr} (x : LisP H a ps rs) : Paired (PrA K H) ps rs := paired_same x.2 fun _ _ q => q.prA
theorem Prg.insT {H : Hp} {p : Addr} {rs : List Pr} (h : Prg K Cp H p rs) : ∃ dx fs, H p = some (.ins Cp dx fs) ∧ fs.lookup ("text" : Str) = none := by
  obtain ⟨dx, d, n, q, us, pl, x, _⟩ := h
  refine ⟨dx, _, x.o, ?_⟩
  unfold flP
  rw [lookup_putF, if_neg (by decide), lookup_putF, if_neg (by decide), lookup_putF, if_neg (by decide)]
  rfl
theorem plain_all {rs : List Pr} (R : RightP rs) : ∀ y ∈ pls rs, Plain y.1 ∧ ∀ s ∈ y.2, Plain s.1 ∧ Plain s.2 := fun y hy => by
  obtain ⟨r, hr, rfl⟩ := List.mem_map.mp hy
  exact (R.ri r hr).plain
/-! ### reads_first -/
def spRFP (K : PySem.W.Frag) (Cp : Addr) : Sp := fun vs H Q _ => ∃ (p : Addr) (rs : List Pr), vs = [.ref p] ∧ Prg K Cp H p rs ∧ ∀ q gs H', Prg K Cp H' q gs → pls gs = (pls rs).map rfP → Same H H' → Q (.ref q) H'
abbrev sReads_first : Stmt := top 23
theorem scReads_first : FnScope ["program", "name"] ["program"] (defScope sReads_first) := ⟨rfl, rfl, rfl, by decide +kernel, rfl, by decide +kernel, by decide +kernel⟩
theorem ok_reads_first {f : Addr} {fd : FuncData} (F : Fun K "reads_first" "reads_first" sReads_first f fd) (T : PgC K mg Cp) (O : PgOps P w K mg base Cp) (mk : CalC P w K mg base CX0 5 "Program" Cp ["self", "procedures"] (spPgInit K Cp) [])
    (c__reads_first : Cal P w K mg base CX0 1 "_reads_first" ["body"] (spRF K)) : FnOk P w K mg base CX0 7 f fd ["program"] (spRFP K Cp) := by
  refine F.ok scReads_first (fun vs H Q E h => ?_) (fun cdv A outer s H vs Q E hr h => ?_)
  · obtain ⟨p, rs, rfl, _⟩ := h
    rfl
  · obtain ⟨p, rs, rfl, hP, k⟩ := h
    have hP0 := hP
    obtain ⟨dx, d, n, q, us, pl, x, R, up, m⟩ := hP
    have mg_Program := T.mgC
    have hr1 : Room 1 _ := hr.mono (by decide : 1 ≤ 6); have hr2 : Room 2 _ := hr.mono (by decide : 2 ≤ 6); have hr__reads_first := hr1
    refine ⟨_, (pss_one (ps_ret (pe_mkc mk hr pass0 (pa_cons (pe_lc (own := [("name", 1)]) (g := (gName 1)) (tt := tYes) rfl scReads_first.nd (pi_tup (fldK K (pv 0))) (blkOk_by (own := [("name", 1)]) (N := ["program", "name"]) (sc := defScope sReads_first) (by decide +kernel)) (fun _ _ _ _ _ => (pg_name (i := 1) scReads_first.nd rfl (by first | exact Or.inl rfl | exact Or.inr rfl))) (fun _ _ _ _ _ => pts_nil) (fun _ _ _ _ _ => (pe_tup (pa_cons (pv 1) (pa_cons (pe_cal c__reads_first hr__reads_first pass0 (pa_cons (om_get O.get hr2 pass0 (pv 0) (pv 1)) pa_nil)) pa_nil))))) pa_nil)))), ?_⟩
    refine ⟨_, rfl, p, Cp, dx, _, _, rfl, x.o, T.ins.cl, T.nN, flP_n d n q, n, rfl, ⟨_, .of x.n⟩, fun D hD => ?_⟩
    refine lc_it walk_tup (fun i H' => ∃ (qs : List Addr) (es : List Pr), H' D = some (.lst (qs.map V.ref)) ∧ Paired (PrL H') qs es ∧ pls es = (pls (rs.take i)).map rfP ∧ Same H H' ∧ (∀ e ∈ es, e.b ≠ D) ∧ qs.length = i)
      ⟨[], [], upd_same, .nil, rfl, Same.new hD, (by simp), rfl⟩ (fun i H' _ q => .of (q.choose_spec.choose_spec.2.2.2.1 _ _ x.n)) ?_ ?_
    · rintro i y _ H1 hi ⟨qs, es, h1, pr, ep, s1, fr, lq⟩ ⟨rfl, hx⟩
      rw [List.getElem?_map, List.getElem?_map] at hx
      obtain ⟨z, hz, rfl⟩ := Option.map_eq_some_iff.mp hx
      obtain ⟨r, hr', rfl⟩ := Option.map_eq_some_iff.mp hz
      have rm := List.mem_of_getElem? hr'
      have hP1 := hP0.same s1
      have few := R.few
      rw [List.length_map, List.length_map] at hi
      refine ⟨rfl, yes_then ?_⟩
      obtain ⟨dx1, f1, i1⟩ := hP1.ins
      refine ⟨_, rfl, _, rfl, _, rfl, p, dx1, f1, rfl, i1, p, rs, r, rfl, hP1, rm, fun u sq st => ?_⟩
      refine ⟨u, r.ts, r.ss, rfl, .inr sq, st, bodyB_len (R.ri r rm).2.1, fun l ts' H2 nl hl2 st2 s2 => ⟨(by show 2 ≤ sizeLine; decide), fun t ht => ?_⟩⟩
      have s3 := s2.trans (Same.new (o := .tup [.str r.name, .ref l]) ht)
      have hl3 := (Same.new (o := .tup [.str r.name, .ref l]) ht) _ _ hl2
      have st3 := st2.same (Same.new (o := .tup [.str r.name, .ref l]) ht)
      have ht3 : (upd H2 t (.tup [.str r.name, .ref l])) t = some (.tup [.str r.name, .ref l]) := upd_same
      generalize upd H2 t (.tup [.str r.name, .ref l]) = H3 at s3 hl3 st3 ht3
      have h3 := s3 _ _ h1
      have lD : l ≠ D := ne_none nl h1
      refine ⟨_, h3, ?_, qs ++ [t], es ++ [⟨r.name, l, ts', rf r.ss⟩], by rw [upd_same, List.map_append]; rfl, ?_, ?_, (s1.trans s3).mut hD, fun e he => ?_, by rw [List.length_append, lq]; rfl⟩
      · rw [List.length_map, lq]; exact Nat.lt_of_lt_of_le (by omega : i < 17) (by decide)
      · refine paired_snoc (paired_same (paired_mem pr) fun q e hqe => (hqe.1.same s3).put h3 (fr e hqe.2)) ⟨?_, ?_, ?_⟩
        · rw [upd_ne (fun e => by rw [e, h3] at ht3; cases ht3)]; exact ht3
        · rw [upd_ne lD]; exact hl3
        · exact st3.sameN (SameN.refl.put h3)
      · rw [pls_snoc, ep, List.take_add_one, hr']
        show _ = (pls (rs.take i ++ [r])).map rfP
        rw [pls_snoc, List.map_append]; rfl
      · rcases List.mem_append.mp he with he | he
        · exact fr e he
        · rw [List.mem_singleton.mp he]; exact lD
    · rintro H1 ⟨qs, es, h1, pr, ep, s1, fr, lq⟩
      rw [List.length_map, List.length_map, List.take_length] at ep
      have R1 := rightP_rf ep R
      intro p2 dx2 np ndx nex
      refine ⟨p2, dx2, D, qs, es, rfl, upd_same, .inl (SameL (ns_grow np ndx) (.of h1)), paired_same (LisP.prA (K := K) (a := D) ⟨h1, pr⟩) (fun _ _ z => z.same (ns_grow np ndx)), R1, fun H4 P4 kp4 => ⟨rfl, ?_⟩⟩
      exact k p2 es H4 P4 ep (s1.trans (pg_same np ndx kp4))
end
end Mf
namespace Mf
open PySem L2
section
variable {P : Program} {w : World} {K : PySem.W.Frag} {mg : Str → Option Value} {base : Heap} {Cp C : Addr}
/-! ### the law -/
abbrev sLaw : Stmt := top 35
theorem scLaw : FnScope ["_law_script", "_law_source_here", "_law_wide", "_law_procedures", "_law_program_here", "_law_moved", "_law_due", "_law_again", "_law_name_here", "_law_body", "_law_reads", "_law_step_here"] ["_law_script"] (defScope sLaw) := ⟨rfl, rfl, rfl, by decide +kernel, rfl, by decide +kernel, by decide +kernel⟩
set_option maxHeartbeats 4000000 in
theorem ok_law {f : Addr} {fd : FuncData} (F : Fun K "law" "law" sLaw f fd) (T : PgC K mg Cp) (O : PgOps P w K mg base Cp) (o_text : CalM P w K mg base CX0 2 Cp "text" ["self"] (spText K Cp)) (mk : CalC P w K mg base CX0 5 "Program" Cp ["self", "procedures"] (spPgInit K Cp) [])
    (c_source : Cal P w K mg base CX0 1 "_law_source" ["_law_script"] (spSource K)) (c_draw : Cal P w K mg base CX0 1 "_law_draw" psD spDraw) (c_any_program : Cal P w K mg base CX0 5 "_law_any_program" ["_law_source_here"] spAny) (c_some_program : Cal P w K mg base CX0 4 "_law_some_program" ["_law_source_here", "_law_most"] spProgram)
    (c_copy : Cal P w K mg base CX0 1 "_law_copy" ["_law_procedures"] spCopy) (c_reads_first : Cal P w K mg base CX0 7 "reads_first" ["program"] (spRFP K Cp)) (mAny : mg "any" = none) : FnOk P w K mg base CX0 8 f fd ["_law_script"] (spLaw K) := by
  refine F.ok scLaw (fun vs H Q E h => ?_) (fun cdv A outer s H vs Q E hr h => ?_)
  · obtain ⟨a, ns, rfl, _⟩ := h
    rfl
  · obtain ⟨a, ns, rfl, hs, hl, k⟩ := h
    have mIsi := T.mIsi; have mTuple := T.mTuple; have mLen := T.mLen; have mg_Program := T.mgC
    have hr1 : Room 1 _ := hr.mono (by decide : 1 ≤ 7); have hr2 : Room 2 _ := hr.mono (by decide : 2 ≤ 7); have hr3 : Room 3 _ := hr.mono (by decide : 3 ≤ 7); have hr6 : Room 6 _ := hr.mono (by decide : 6 ≤ 7)
    have hr_source := hr1; have hr_draw := hr1; have hr_copy := hr1; have hr_reads_first := hr; have hr_some_program : Room 4 _ := hr.mono (by decide : 4 ≤ 7)
    have hr_any_program : Room 5 _ := hr.mono (by decide : 5 ≤ 7)
    refine ⟨_, (pss_cons (ps_set (i := 1) scLaw.nd rfl (by first | exact Or.inl rfl | exact Or.inr rfl) (pe_cal c_source hr_source pass0 (pa_cons (pv 0) pa_nil)))
      (pss_cons (ps_set (i := 2) scLaw.nd rfl (by first | exact Or.inl rfl | exact Or.inr rfl) (pe_cmpR op_eq (pe_cal c_draw hr_draw pass0 (pa_cons (pv 1) (pa_cons pe_int pa_nil))) pe_int (nomark _)))
      (C8.pss_cut (ps_set (i := 3) scLaw.nd rfl (by first | exact Or.inl rfl | exact Or.inr rfl) (pe_ifExp (pt_truth (pv 2) (by intro _; rfl)) (pe_cal c_any_program hr_any_program pass0 (pa_cons (pv 1) pa_nil)) (pe_cal c_some_program hr_some_program pass0 (pa_cons (pv 1) (pa_cons pe_int pa_nil)))))
      (pss_cons (ps_set (i := 4) scLaw.nd rfl (by first | exact Or.inl rfl | exact Or.inr rfl) (pe_mkc mk hr6 pass0 (pa_cons (pe_cal c_copy hr_copy pass0 (pa_cons (pv 3) pa_nil)) pa_nil)))
      (pss_cons (ps_set (i := 5) scLaw.nd rfl (by first | exact Or.inl rfl | exact Or.inr rfl) (pe_cal c_reads_first hr_reads_first pass0 (pa_cons (pv 4) pa_nil)))
      (pss_cons (ps_set (i := 6) scLaw.nd rfl (by first | exact Or.inl rfl | exact Or.inr rfl) (pe_lst pa_nil))
      (pss_cons (ps_for PassesOwn.never rfl (pi_list (pv 3)) (pg_tup rfl (pgs_cons (pg_name (i := 8) scLaw.nd rfl (by first | exact Or.inl rfl | exact Or.inr rfl)) (pgs_cons (pg_name (i := 9) scLaw.nd rfl (by first | exact Or.inl rfl | exact Or.inr rfl)) pgs_nil)))
        (pss_cons (ps_setLc (i := 10) (own := [("_law_step_here", 11)]) (g := (gName 11)) rfl scLaw.nd rfl rfl (sw_true rfl rfl rfl (by decide +kernel)) (pi_list (pv 9)) (blkOk_by (own := [("_law_step_here", 11)]) (N := ["_law_script", "_law_source_here", "_law_wide", "_law_procedures", "_law_program_here", "_law_moved", "_law_due", "_law_again", "_law_name_here", "_law_body", "_law_reads", "_law_step_here"]) (sc := defScope sLaw) (by decide +kernel)) (fun _ _ _ _ _ => (pg_name (i := 11) scLaw.nd rfl (by first | exact Or.inl rfl | exact Or.inr rfl))) (fun _ _ _ _ _ => pts_one (pt_cmpR op_eq (pe_ix (ixt K) (pv 11) pe_int (fun _ _ => rfl)) pe_str (nomark _))) (fun _ _ _ _ _ => (pv 11)))
        (pss_one (ps_expr (pe_bm PySem.F.plainAttrs_list PySem.F.slot_list_append PySem.F.type_list_append mt_append (pv 6) (pa_cons (pe_tup (pa_cons (pv 8) (pa_cons (pe_op op_cat (pv 10) (pe_lc (own := [("_law_step_here", 11)]) (g := (gName 11)) rfl scLaw.nd (pi_list (pv 9)) (blkOk_by (own := [("_law_step_here", 11)]) (N := ["_law_script", "_law_source_here", "_law_wide", "_law_procedures", "_law_program_here", "_law_moved", "_law_due", "_law_again", "_law_name_here", "_law_body", "_law_reads", "_law_step_here"]) (sc := defScope sLaw) (by decide +kernel)) (fun _ _ _ _ _ => (pg_name (i := 11) scLaw.nd rfl (by first | exact Or.inl rfl | exact Or.inr rfl))) (fun _ _ _ _ _ => pts_one (pt_cmpR op_ne (pe_ix (ixt K) (pv 11) pe_int (fun _ _ => rfl)) pe_str (nomark _))) (fun _ _ _ _ _ => (pv 11)))) pa_nil))) pa_nil))))))
      (pss_cons (ps_if (PW.pt (pw_or (pt_cmpR (neD K hr) (fldK K (pv 5)) (pe_callTy (k_tuple K) (by rfl) mTuple (by decide +kernel) (pa_cons (pe_lc (own := [("_law_name_here", 8), ("_law_body", 9)]) (g := (gTup K 2 (gCons (gName 8) (gCons (gName 9) gNil)))) (tt := tYes) rfl scLaw.nd (pi_list (pv 6)) (blkOk_by (own := [("_law_name_here", 8), ("_law_body", 9)]) (N := ["_law_script", "_law_source_here", "_law_wide", "_law_procedures", "_law_program_here", "_law_moved", "_law_due", "_law_again", "_law_name_here", "_law_body", "_law_reads", "_law_step_here"]) (sc := defScope sLaw) (by decide +kernel)) (fun _ _ _ _ _ => (pg_tup rfl (pgs_cons (pg_name (i := 8) scLaw.nd rfl (by first | exact Or.inl rfl | exact Or.inr rfl)) (pgs_cons (pg_name (i := 9) scLaw.nd rfl (by first | exact Or.inl rfl | exact Or.inr rfl)) pgs_nil)))) (fun _ _ _ _ _ => pts_nil) (fun _ _ _ _ _ => (pv 8))) pa_nil)) (nomark _)) (pw_or1 (pt_cmpR (om_ne K O.eq O.ne T.ins.hm hr3 pass0) (pv 5) (pe_mkc mk hr6 pass0 (pa_cons (pv 6) pa_nil)) (nomark _)))))
        (pss_one (ps_ret pe_bl)) pss_nil)
      (pss_cons (ps_if (pt_val (pe_callB (k_any K) (by rfl) mAny (by decide +kernel) (pa_cons (pe_lc (own := [("_law_name_here", 8), ("_law_body", 9)]) (g := (gTup K 2 (gCons (gName 8) (gCons (gName 9) gNil)))) (tt := tYes) rfl scLaw.nd (pi_list (pv 6)) (blkOk_by (own := [("_law_name_here", 8), ("_law_body", 9)]) (N := ["_law_script", "_law_source_here", "_law_wide", "_law_procedures", "_law_program_here", "_law_moved", "_law_due", "_law_again", "_law_name_here", "_law_body", "_law_reads", "_law_step_here"]) (sc := defScope sLaw) (by decide +kernel)) (fun _ _ _ _ _ => (pg_tup rfl (pgs_cons (pg_name (i := 8) scLaw.nd rfl (by first | exact Or.inl rfl | exact Or.inr rfl)) (pgs_cons (pg_name (i := 9) scLaw.nd rfl (by first | exact Or.inl rfl | exact Or.inr rfl)) pgs_nil)))) (fun _ _ _ _ _ => pts_nil) (fun _ _ _ _ _ => (pe_cmpR (neD K hr) (om_get O.get hr2 pass0 (pv 5) (pv 8)) (pe_callTy (k_tuple K) (by rfl) mTuple (by decide +kernel) (pa_cons (pv 9) pa_nil)) (nomark _)))) pa_nil)))
        (pss_one (ps_ret pe_bl)) pss_nil)
      (pss_cons (ps_set (i := 7) scLaw.nd rfl (by first | exact Or.inl rfl | exact Or.inr rfl) (pe_cal c_reads_first hr_reads_first pass0 (pa_cons (pv 5) pa_nil)))
      (pss_cons (ps_if (PW.pt (pw_or (pt_cmpR (om_ne K O.eq O.ne T.ins.hm hr3 pass0) (pv 7) (pv 5) (nomark _)) (pw_or1 (pt_not (pt_val (pe_callB (k_isi K) (by rfl) mIsi (by decide +kernel) (pa_cons (pv 5) (pa_cons (pe_glob (v := .ref _) rfl mg_Program rfl) pa_nil))))))))
        (pss_one (ps_ret pe_bl)) pss_nil)
      (pss_one (ps_ret (pe_and (pe_cmpR (om_cmp (op := .Eq) K O.eq hr2 pass0) (pv 4) (pe_mkc mk hr6 pass0 (pa_cons (pe_cal c_copy hr_copy pass0 (pa_cons (pv 3) pa_nil)) pa_nil)) (nomark _)) (pe_one (pe_cmpR op_eq (om_meth0 (pv 4) T.ins.cl o_text hr2 pass0) (om_meth0 (pe_mkc mk hr6 pass0 (pa_cons (pv 3) pa_nil)) T.ins.cl o_text hr2 pass0) (nomark _))))))))))))))))), ?_⟩
    refine ⟨_, rfl, a, ns, rfl, hs, hl, fun g H1 _ s1 S1 => ?_⟩
    refine ⟨_, rfl, g, 3, 900000000, rfl, by decide, by decide, S1.mono (by decide), fun v H2 v0 v1 k2 S2 => ⟨rfl, ?_⟩⟩
    refine ⟨fun σ' H' => ∃ (pr : Addr) (ps : List Addr) (es : List Pr), σ' = [some (.ref a), some (.ref g), some (.bl (decide (V.int v = V.int 0))), some (.ref pr), none, none, none, none, none, none, none, none] ∧ LisP H' pr ps es ∧ RightP es ∧ Src H' g 100000, ?_, ?_⟩
    · refine ⟨_, rfl, _, rfl, ite2 (fun _ => ?_) fun _ => ?_⟩
      · refine ⟨_, rfl, g, 100000, rfl, S2.mono (by decide), fun pr ps es H3 L3 R _ npr _ k3 S3 => ⟨pr, ps, es, rfl, L3, R, S3⟩⟩
      · refine ⟨_, rfl, g, 6, 100000, rfl, by decide, by decide, S2.mono (by decide), fun pr ps es H3 L3 R _ npr _ k3 S3 => ⟨pr, ps, es, rfl, L3, R, S3⟩⟩
    rintro σ' H3 ⟨pr, ps, es, rfl, L3, R, S3⟩
    -- the copy, the program
    refine ⟨_, rfl, pr, ps, es, rfl, L3, R.few, fun q qs fs H4 L4 e4 nq fr nd s34 => ?_⟩
    have R4 := rightP_pls e4 R
    intro p dxp np ndx nex
    refine ⟨p, dxp, q, qs, fs, rfl, upd_same, .inl (SameL (ns_grow np ndx) (.of L4.1)), paired_same (LisP.prA (K := K) L4) (fun _ _ z => z.same (ns_grow np ndx)), R4, fun H5 P5 kp5 => ⟨rfl, ?_⟩⟩
    have s35 := s34.trans (pg_same np ndx kp5)
    have L5 := L3.same s35
    -- moved
    refine ⟨_, rfl, p, fs, rfl, P5, fun m gs H6 P6 e6 s56 => ?_⟩
    have L6 := L5.same s56
    have R6 := rightP_rf e6 R4
    -- due
    refine ⟨(by show 0 ≤ sizeLine; decide), fun D hD => ?_⟩
    have lp : ps.length = es.length := Paired.length L6.2
    have sD := Same.new (o := .lst []) hD
    refine ⟨_, rfl, pr, rfl, ⟨_, .of (sD _ _ L6.1)⟩, ?_⟩
    refine for_it walk_list (fun i σ H' => ∃ (qs2 : List Addr) (es2 : List Pr) (v8 v9 v10 : Option V), σ = [some (.ref a), some (.ref g), some (.bl (decide (V.int v = V.int 0))), some (.ref pr), some (.ref p), some (.ref m), some (.ref D), none, v8, v9, v10, none] ∧ H' D = some (.lst (qs2.map V.ref)) ∧ Paired (PrL H') qs2 es2 ∧ pls es2 = (pls (es.take i)).map rfP ∧ Same H6 H' ∧ (∀ e ∈ es2, e.b ≠ D) ∧ qs2.length = i)
      ⟨[], [], none, none, none, rfl, upd_same, .nil, rfl, sD, (by simp), rfl⟩ (fun i σ H' _ q => .of (q.choose_spec.choose_spec.choose_spec.choose_spec.choose_spec.2.2.2.2.1 _ _ L6.1)) ?_ ?_
    · rintro i x σ _ H7 hi ⟨qs2, es2, v8, v9, v10, rfl, h7, pr7, e7, s7, fr7, lq⟩ ⟨rfl, hx⟩
      rw [List.getElem?_map] at hx
      obtain ⟨t, ht, rfl⟩ := Option.map_eq_some_iff.mp hx
      obtain ⟨r, hr', pa⟩ := paired_get L6.2 ht
      have p1 := pa.same s7
      have few := R.few
      rw [List.length_map, lp] at hi
      have rm := List.mem_of_getElem? hr'
      have ls : r.ss.length ≤ 12 := bodyB_len (R.ri r rm).2.1
      have lt : r.ts.length = r.ss.length := Paired.length p1.2.2
      have step : ∀ {i : Nat} {x : V} {H1 : Hp}, Same H7 H1 → (r.ts.map V.ref)[i]? = some x → ∃ t sp, x = .ref t ∧ r.ss[i]? = some sp ∧ H1 t = some (.tup [.str sp.1, .str sp.2]) := fun {i x H1} s1 hx => by
        rw [List.getElem?_map] at hx
        obtain ⟨t, ht, rfl⟩ := Option.map_eq_some_iff.mp hx
        obtain ⟨sp, hsp, hts⟩ := p1.2.2.get ht
        exact ⟨t, sp, rfl, hsp, s1 _ _ hts⟩
      refine ⟨t, _, rfl, .of p1.1, rfl, _, _, rfl, _, _, rfl, rfl, ?_⟩
      refine ⟨_, rfl, r.b, rfl, ⟨_, .of p1.2.1⟩, fun D1 hD1 => ?_⟩
      refine lc_it walk_list (fun j H' => ∃ us, Same H7 H' ∧ H' D1 = some (.lst (us.map V.ref)) ∧ StA H' us ((r.ss.take j).filter isR)) ⟨[], Same.new hD1, upd_same, .nil⟩ (fun j H' _ q => .of (q.choose_spec.1 _ _ p1.2.1)) ?_ ?_
      · rintro j x _ H8 hj ⟨us, s8, h8, su⟩ ⟨rfl, hx⟩
        rw [List.length_map, lt] at hj
        obtain ⟨t, sp, rfl, hsp, hts⟩ := step s8 hx
        have tk : r.ss.take (j + 1) = r.ss.take j ++ [sp] := by rw [List.take_add_one, hsp]; rfl
        refine ⟨rfl, _, rfl, t, _, 0, _, rfl, rfl, .of hts, rfl, rfl, _, rfl, ite2 (fun q => ?_) fun q => ?_⟩
        · have e : isR sp = true := by rw [← isR_v]; exact q
          refine ⟨_, rfl, _, h8, ?_, us ++ [t], s8.mut hD1, by rw [upd_same, List.map_append]; rfl, ?_⟩
          · have := Paired.length su
            rw [List.length_map, this]
            exact Nat.lt_of_le_of_lt (Nat.le_trans (List.length_filter_le _ _) (Nat.le_trans (List.length_take_le' _ _) ls)) (by decide)
          · rw [tk, List.filter_append, List.filter_cons_of_pos e, List.filter_nil]
            exact paired_snoc (su.sameN (SameN.refl.put h8)) ((SameN.refl.put h8) _ _ noL_tup hts)
        · have e : isR sp = false := by rw [← isR_v]; exact Bool.eq_false_iff.mpr q
          refine ⟨us, s8, h8, ?_⟩
          rw [tk, List.filter_append, List.filter_cons_of_neg (by rw [e]; simp), List.filter_nil, List.append_nil]
          exact su
      · rintro H8 ⟨us, s8, h8, su⟩
        rw [List.length_map, lt, List.take_length] at su
        have hD8 := s8 _ _ h7
        refine ⟨_, rfl, .inl ⟨rfl, _, .of hD8⟩, _, rfl, _, rfl, _, rfl, r.b, rfl, ⟨_, .of (s8 _ _ p1.2.1)⟩, fun D2 hD2 => ?_⟩
        refine lc_it walk_list (fun j H' => ∃ ws, Same H8 H' ∧ H' D2 = some (.lst (ws.map V.ref)) ∧ StA H' ws ((r.ss.take j).filter fun s => !isR s)) ⟨[], Same.new hD2, upd_same, .nil⟩ (fun j H' _ q => .of (q.choose_spec.1 _ _ (s8 _ _ p1.2.1))) ?_ ?_
        · rintro j x _ H9 hj ⟨ws, s9, h9, sw⟩ ⟨rfl, hx⟩
          rw [List.length_map, lt] at hj
          obtain ⟨t, sp, rfl, hsp, hts⟩ := step (s8.trans s9) hx
          have tk : r.ss.take (j + 1) = r.ss.take j ++ [sp] := by rw [List.take_add_one, hsp]; rfl
          refine ⟨rfl, _, rfl, t, _, 0, _, rfl, rfl, .of hts, rfl, rfl, _, rfl, ite2 (fun q => ?_) fun q => ?_⟩
          · have e : (!isR sp) = true := by rw [← isR_v]; exact q
            refine ⟨_, rfl, _, h9, ?_, ws ++ [t], s9.mut hD2, by rw [upd_same, List.map_append]; rfl, ?_⟩
            · have := Paired.length sw
              rw [List.length_map, this]
              exact Nat.lt_of_le_of_lt (Nat.le_trans (List.length_filter_le _ _) (Nat.le_trans (List.length_take_le' _ _) ls)) (by decide)
            · have e2 : List.filter (fun s => !isR s) [sp] = [sp] := by rw [List.filter_cons, if_pos e]; rfl
              rw [tk, List.filter_append, e2]
              exact paired_snoc (sw.sameN (SameN.refl.put h9)) ((SameN.refl.put h9) _ _ noL_tup hts)
          · have e : (!isR sp) = false := by rw [← isR_v]; exact Bool.eq_false_iff.mpr q
            refine ⟨ws, s9, h9, ?_⟩
            have e2 : List.filter (fun s => !isR s) [sp] = [] := by rw [List.filter_cons, if_neg (by rw [e]; simp)]; rfl
            rw [tk, List.filter_append, e2, List.append_nil]
            exact sw
        · rintro H9 ⟨ws, s9, h9, sw⟩
          rw [List.length_map, lt, List.take_length] at sw
          have h89 := s9 _ _ h8
          have m1 : us.length ≤ 12 := by rw [Paired.length su]; exact Nat.le_trans (List.length_filter_le _ _) ls
          have m2 : ws.length ≤ 12 := by rw [Paired.length sw]; exact Nat.le_trans (List.length_filter_le _ _) ls
          refine ⟨D1, D2, _, _, rfl, rfl, h89, h9, ?_, fun l nl => ⟨(by show 2 ≤ sizeLine; decide), fun t2 ht2 => ?_⟩⟩
          · rw [List.length_map, List.length_map]
            exact Nat.le_trans (by omega : _ ≤ 24) (by decide)
          have sl := Same.new (o := .lst (us.map V.ref ++ ws.map V.ref)) nl
          have st2 := Same.new (o := .tup [.str r.name, .ref l]) ht2
          have s7A := ((s8.trans s9).trans sl).trans st2
          have stA : StA (upd (upd H9 l (.lst (us.map V.ref ++ ws.map V.ref))) t2 (.tup [.str r.name, .ref l])) (us ++ ws) (rf r.ss) := paired_app (((su.same s9).same sl).same st2) ((sw.same sl).same st2)
          have hlA : (upd (upd H9 l (.lst (us.map V.ref ++ ws.map V.ref))) t2 (.tup [.str r.name, .ref l])) l = some (.lst ((us ++ ws).map V.ref)) := by rw [List.map_append]; exact st2 _ _ upd_same
          have htA : (upd (upd H9 l (.lst (us.map V.ref ++ ws.map V.ref))) t2 (.tup [.str r.name, .ref l])) t2 = some (.tup [.str r.name, .ref l]) := upd_same
          have lD : l ≠ D := ne_none nl ((s8.trans s9) _ _ h7)
          generalize upd (upd H9 l (.lst (us.map V.ref ++ ws.map V.ref))) t2 (.tup [.str r.name, .ref l]) = HA at s7A stA hlA htA
          have hDA := s7A _ _ h7
          refine ⟨D, _, _, rfl, rfl, hDA, ?_, qs2 ++ [t2], es2 ++ [⟨r.name, l, us ++ ws, rf r.ss⟩], _, _, _, rfl, by rw [upd_same, List.map_append]; rfl, ?_, ?_, (s7.trans s7A).mut hD, fun e he => ?_, by rw [List.length_append, lq]; rfl⟩
          · rw [List.length_map, lq]; exact Nat.lt_of_lt_of_le (by omega : i < 17) (by decide)
          · refine paired_snoc (paired_same (paired_mem pr7) fun q e hqe => (hqe.1.same s7A).put hDA (fr7 e hqe.2)) ⟨?_, ?_, ?_⟩
            · rw [upd_ne (fun e => by rw [e, hDA] at htA; cases htA)]; exact htA
            · rw [upd_ne lD]; exact hlA
            · exact stA.sameN (SameN.refl.put hDA)
          · rw [pls_snoc, e7, List.take_add_one, hr']
            show _ = (pls (es.take i ++ [r])).map rfP
            rw [pls_snoc, List.map_append]; rfl
          · rcases List.mem_append.mp he with he | he
            · exact fr7 e he
            · rw [List.mem_singleton.mp he]; exact lD
    rintro σ H7 ⟨qs2, es2, v8, v9, v10, rfl, hD7, pr7, e7, s67, fr7, _⟩
    rw [List.length_map, lp, List.take_length] at e7
    have e27 : pls es2 = pls gs := by rw [e7, e6, e4]
    have P7 := P6.same s67
    have R2 : RightP es2 := rightP_pls e27 R6
    have l2 : qs2.length = es2.length := Paired.length pr7
    have P5' := (P5.same s56).same s67
    have L7 := L6.same s67
    clear P6 P5 L6 L5 L4 L3 sD s34 kp5
    have PP := P7
    obtain ⟨dx, d, n, q2, us, pl, x, _, up, mm⟩ := PP
    have few := R2.few
    -- the names
    refine ⟨_, rfl, m, Cp, dx, _, _, rfl, x.o, T.ins.cl, T.nN, flP_n d n q2, _, rfl, D, rfl, ⟨_, .of hD7⟩, fun D3 hD3 => ?_⟩
    refine lc_it walk_list (fun i H' => Same H7 H' ∧ H' D3 = some (.lst (((es2.take i).map Pr.name).map V.str))) ⟨Same.new hD3, upd_same⟩ (fun i H' _ q => .of (q.1 _ _ hD7)) ?_ ?_
    · rintro i x _ H8 hi ⟨s8, h8⟩ ⟨rfl, hx⟩
      rw [List.getElem?_map] at hx
      obtain ⟨t, ht, rfl⟩ := Option.map_eq_some_iff.mp hx
      obtain ⟨r, hr', pa⟩ := paired_get pr7 ht
      have p1 := pa.same s8
      rw [List.length_map, l2] at hi
      refine ⟨t, _, rfl, .of p1.1, rfl, _, _, rfl, _, _, rfl, rfl, rfl, yes_then ?_⟩
      refine ⟨_, rfl, _, h8, ?_, s8.mut hD3, ?_⟩
      · rw [List.length_map, List.length_map, List.length_take]
        exact Nat.lt_of_lt_of_le (by omega : _ < 17) (by decide)
      · rw [upd_same, List.take_add_one, hr', List.map_append, List.map_append]; rfl
    rintro H8 ⟨s78, h8⟩
    rw [List.length_map, l2, List.take_length] at h8
    refine ⟨D3, _, rfl, .inl ⟨.of h8, fun t ht => ?_⟩⟩
    have st := Same.new (o := .tup ((es2.map Pr.name).map V.str)) ht
    have s7t := s78.trans st
    refine ⟨_, _, .tup (.of (s7t _ _ x.n)) (dpS _), .tup (.of upd_same) (dpS _), shT (names_ok R6), shT (names_ok R2), _, rfl, ?_⟩
    show if (!PyData.eqvAll _ _) = true then _ else _
    rw [eqvS, pls_nms e27]
    refine iteNS rfl ?_
    rw [pls_nms e27] at st s7t
    generalize upd H8 t (.tup ((gs.map Pr.name).map V.str)) = H9 at st s7t
    have P9 := P7.same s7t
    have hD9 := s7t _ _ hD7
    have pr9 : Paired (PrL H9) qs2 es2 := paired_same pr7 fun _ _ z => z.same s7t
    obtain ⟨dxm, fm, im⟩ := P9.ins
    refine ⟨_, rfl, _, rfl, ?_⟩
    intro p2 dx2 np2 ndx2 nex2
    refine ⟨p2, dx2, D, qs2, es2, rfl, upd_same, .inl (SameL (ns_grow np2 ndx2) (.of hD9)), paired_same (LisP.prA (K := K) (a := D) ⟨hD9, pr9⟩) (fun _ _ z => z.same (ns_grow np2 ndx2)), R2, fun HA PA kpA => ⟨rfl, ?_⟩⟩
    have s9A := pg_same np2 ndx2 kpA
    have PmA := P9.same s9A
    have hDA := s9A _ _ hD9
    have prA : Paired (PrL HA) qs2 es2 := paired_same pr9 fun _ _ z => z.same s9A
    have imA := s9A _ _ im
    refine ⟨m, dxm, fm, rfl, imA, T.below PA, m, gs, _, _, rfl, PmA, .inl ⟨p2, es2, rfl, PA, rfl⟩, _, rfl, _, rfl, iteNS (by rw [e27]) ?_⟩
    -- the bodies
    refine ⟨_, rfl, D, rfl, ⟨_, .of hDA⟩, fun D4 hD4 => ?_⟩
    refine lc_it walk_list (fun i H' => Same HA H' ∧ H' D4 = some (.lst ((es2.take i).map fun _ => V.bl false))) ⟨Same.new hD4, upd_same⟩ (fun i H' _ q => .of (q.1 _ _ hDA)) ?_ ?_
    · rintro i x _ HB hi ⟨sB, hB⟩ ⟨rfl, hx⟩
      rw [List.getElem?_map] at hx
      obtain ⟨t, ht, rfl⟩ := Option.map_eq_some_iff.mp hx
      obtain ⟨r, hr', pa⟩ := paired_get prA ht
      have p1 := pa.same sB
      rw [List.length_map, l2] at hi
      obtain ⟨q, hq, n1, n2⟩ := pls_get e27 hr'
      have PB := PmA.same sB
      refine ⟨t, _, rfl, .of p1.1, rfl, _, _, rfl, _, _, rfl, rfl, rfl, yes_then ?_⟩
      refine ⟨_, rfl, _, rfl, m, dxm, fm, rfl, sB _ _ imA, m, gs, q, by rw [← n1], PB, List.mem_of_getElem? hq, fun u sq su => ?_⟩
      refine ⟨_, rfl, r.b, _, rfl, .inl ⟨.of p1.2.1, fun u2 hu2 => ?_⟩⟩
      have s2 := Same.new (o := .tup (r.ts.map V.ref)) hu2
      have rm := List.mem_of_getElem? hr'
      refine ⟨_, _, dp_body (r := q) (s2.tup sq) (su.same s2), dp_body (r := r) (.of upd_same) (p1.2.2.same s2), (sh_bdT (right_st (R6.ri q (List.mem_of_getElem? hq)))).sh, (sh_bdT (right_st (R2.ri r rm))).sh, _, s2 _ _ hB, ?_, (sB.trans s2).mut hD4, ?_⟩
      · rw [List.length_map, List.length_take]
        exact Nat.lt_of_lt_of_le (by omega : _ < 17) (by decide)
      · rw [upd_same, List.take_add_one, hr', List.map_append, eqv_bdT, n2, decide_eq_true rfl]; rfl
    rintro HB ⟨sAB, hB⟩
    have eB : ((es2.take (qs2.map V.ref).length).map fun _ => V.bl false) = (es2.map fun _ => false).map V.bl := by rw [List.length_map, l2, List.take_length, List.map_map]; rfl
    rw [eB] at hB
    have al : (es2.map fun _ => false).any id = false := by rw [List.any_map]; exact List.any_eq_false.mpr fun _ _ => by simp
    refine ⟨D4, _, rfl, .of hB, _, rfl, ?_⟩
    rw [al]
    refine iteF ?_
    -- again
    have PmB := PmA.same sAB
    refine ⟨_, rfl, m, gs, rfl, PmB, fun m2 hs2 HC PC eC sBC => ?_⟩
    have eG : pls hs2 = pls gs := by rw [eC, e6, rfP_rfP]
    have PmC := PmB.same sBC
    have imC := sBC _ _ (sAB _ _ imA)
    obtain ⟨dx2, f2, i2⟩ := PC.ins
    refine ⟨_, rfl, _, rfl, m2, dx2, f2, rfl, i2, T.below PmC, m2, hs2, _, _, rfl, PC, .inl ⟨m, gs, rfl, PmC, rfl⟩, _, rfl, _, rfl, iteNS (by rw [eG]) ?_⟩
    refine ⟨_, rfl, _, _, _, _, true, rfl, .own Cp, T.isi imC, T.ins.me, _, rfl, iteF ?_⟩
    -- the program stays
    have s7C := ((s7t.trans s9A).trans sAB).trans sBC
    have PC0 := P5'.same s7C
    have LC := L7.same s7C
    refine ⟨_, rfl, _, rfl, pr, ps, es, rfl, LC, R.few, fun q6 qs6 fs6 HD LD eD _ _ _ sCD => ?_⟩
    have RD := rightP_pls eD R
    intro p6 dx6 np6 ndx6 _
    refine ⟨p6, dx6, q6, qs6, fs6, rfl, upd_same, .inl (SameL (ns_grow np6 ndx6) (.of LD.1)), paired_same (LisP.prA (K := K) LD) (fun _ _ z => z.same (ns_grow np6 ndx6)), RD, fun HE PE kpE => ⟨rfl, ?_⟩⟩
    have sCE := sCD.trans (pg_same np6 ndx6 kpE)
    have P0 := PC0.same sCE
    have LE := LC.same sCE
    obtain ⟨dx0, f0, i0, l0⟩ := P0.insT
    refine ⟨p, dx0, f0, rfl, i0, T.below PE, p, fs, .ref p6, true, rfl, P0, .inl ⟨p6, fs6, rfl, PE, by rw [e4, eD]; simp⟩, ?_⟩
    refine ⟨_, rfl, iteT ?_⟩
    refine ⟨_, rfl, p, dx0, f0, rfl, i0, l0, p, fs, rfl, P0, fun HF sF => ?_⟩
    refine ⟨_, rfl, ?_⟩
    have LF := LE.same sF
    intro p8 dx8 np8 ndx8 _
    refine ⟨p8, dx8, pr, ps, es, rfl, upd_same, .inl (SameL (ns_grow np8 ndx8) (.of LF.1)), paired_same (LisP.prA (K := K) LF) (fun _ _ z => z.same (ns_grow np8 ndx8)), R, fun HG PG kpG => ⟨rfl, ?_⟩⟩
    obtain ⟨dx9, f9, i9, l9⟩ := PG.insT
    refine ⟨p8, dx9, f9, rfl, i9, l9, p8, es, rfl, PG, fun HH sH => ?_⟩
    refine ⟨rfl, ?_⟩
    rw [e4, decide_eq_true rfl]
    exact k HH
end
end Mf
namespace Mf
open PySem L2
theorem MetF.calC {P : Program} {w : World} {K : PySem.W.Frag} {mg : Str → Option Value} {base : Heap} {CX : CXT} {k : Nat} {x qual : Str} {st : Stmt} {f C : Addr} {ps : List Str} {sp : Sp} (D : MetF K C "__init__" qual st f) (mk : PySem.W.makesIn K C = true) (kc : PySem.W.keepIn K (.ref C) = true) (m : mg x = some (.ref C)) (hb : BindP "__init__" qual st ps)
    (ok : ∀ fd, Fun K "__init__" qual st f fd → FnOk P w K mg base CX k f fd ps sp) : CalC P w K mg base CX k x C ps sp [] := by
  obtain ⟨oc, od, sl, kV, dc, pm, an, cd, ct, a, l, c, q, i, n⟩ := D.ex
  have F := fun_mk (st := st) l c q
  exact ⟨⟨f, _, [], ⟨mk, a, i, kc⟩, ok _ F, m, F.binds hb, .nil⟩⟩
set_option maxHeartbeats 4000000 in
theorem all_mk {l : PySem.W.OpenLaw} {w : World} {K : PySem.W.Frag} {h : Heap} {mg : Str → Option Value} {fa : Addr} (X : K.In h) (G : h.Ns mainGlobals mg) (hfa : mg "law" = some (.ref fa))
    {Cn Cp fICn tDCn t0Cn fICp fCpeq fCpgetitem fCpcontains fCplen fCptext fDIs_name fDIs_step fDIs_body fDChecked_bodies fDCheck_callees fDPlaces fDLine fDRFirst fDReads_first fDSource fDDraw fDName fDNames fDStep fDProgram fDAny_program fDCopy fDSome_program fDLaw xKINDS xCALLING_KINDS : Addr}
    {ocCn : Value} {odCn : Option Addr} {slCn : Array (Option Value)} {kVCn dcCn pmCn : Value} {anCn : Option Addr} {cdCn cuCn : Value} {o1Cn o2Cn : Obj} {itsCn : List Value} {n1Cn n2Cn : Nat}
    {ocICp : Value} {odICp : Option Addr} {slICp : Array (Option Value)} {kVICp dcICp pmICp : Value} {anICp : Option Addr} {cdICp ctICp : Value}
    {ocCpeq : Value} {odCpeq : Option Addr} {slCpeq : Array (Option Value)} {kVCpeq dcCpeq pmCpeq : Value} {anCpeq : Option Addr} {cdCpeq ctCpeq : Value}
    {ocCpgetitem : Value} {odCpgetitem : Option Addr} {slCpgetitem : Array (Option Value)} {kVCpgetitem dcCpgetitem pmCpgetitem : Value} {anCpgetitem : Option Addr} {cdCpgetitem ctCpgetitem : Value}
    {ocCpcontains : Value} {odCpcontains : Option Addr} {slCpcontains : Array (Option Value)} {kVCpcontains dcCpcontains pmCpcontains : Value} {anCpcontains : Option Addr} {cdCpcontains ctCpcontains : Value}
    {ocCplen : Value} {odCplen : Option Addr} {slCplen : Array (Option Value)} {kVCplen dcCplen pmCplen : Value} {anCplen : Option Addr} {cdCplen ctCplen : Value}
    {ocCptext : Value} {odCptext : Option Addr} {slCptext : Array (Option Value)} {kVCptext dcCptext pmCptext : Value} {anCptext : Option Addr} {cdCptext ctCptext : Value}
    {ocDIs_name : Value} {odDIs_name : Option Addr} {slDIs_name : Array (Option Value)} {kVDIs_name dcDIs_name pmDIs_name : Value} {anDIs_name : Option Addr} {cdDIs_name ctDIs_name : Value}
    {ocDIs_step : Value} {odDIs_step : Option Addr} {slDIs_step : Array (Option Value)} {kVDIs_step dcDIs_step pmDIs_step : Value} {anDIs_step : Option Addr} {cdDIs_step ctDIs_step : Value}
    {ocDIs_body : Value} {odDIs_body : Option Addr} {slDIs_body : Array (Option Value)} {kVDIs_body dcDIs_body pmDIs_body : Value} {anDIs_body : Option Addr} {cdDIs_body ctDIs_body : Value}
    {ocDChecked_bodies : Value} {odDChecked_bodies : Option Addr} {slDChecked_bodies : Array (Option Value)} {kVDChecked_bodies dcDChecked_bodies pmDChecked_bodies : Value} {anDChecked_bodies : Option Addr} {cdDChecked_bodies ctDChecked_bodies : Value}
    {ocDCheck_callees : Value} {odDCheck_callees : Option Addr} {slDCheck_callees : Array (Option Value)} {kVDCheck_callees dcDCheck_callees pmDCheck_callees : Value} {anDCheck_callees : Option Addr} {cdDCheck_callees ctDCheck_callees : Value}
    {ocDPlaces : Value} {odDPlaces : Option Addr} {slDPlaces : Array (Option Value)} {kVDPlaces dcDPlaces pmDPlaces : Value} {anDPlaces : Option Addr} {cdDPlaces ctDPlaces : Value}
    {ocDLine : Value} {odDLine : Option Addr} {slDLine : Array (Option Value)} {kVDLine dcDLine pmDLine : Value} {anDLine : Option Addr} {cdDLine ctDLine : Value}
    {ocDRFirst : Value} {odDRFirst : Option Addr} {slDRFirst : Array (Option Value)} {kVDRFirst dcDRFirst pmDRFirst : Value} {anDRFirst : Option Addr} {cdDRFirst ctDRFirst : Value}
    {ocDReads_first : Value} {odDReads_first : Option Addr} {slDReads_first : Array (Option Value)} {kVDReads_first dcDReads_first pmDReads_first : Value} {anDReads_first : Option Addr} {cdDReads_first ctDReads_first : Value}
    {ocDSource : Value} {odDSource : Option Addr} {slDSource : Array (Option Value)} {kVDSource dcDSource pmDSource : Value} {anDSource : Option Addr} {cdDSource ctDSource : Value}
    {ocDDraw : Value} {odDDraw : Option Addr} {slDDraw : Array (Option Value)} {kVDDraw dcDDraw pmDDraw : Value} {anDDraw : Option Addr} {cdDDraw ctDDraw : Value}
    {ocDName : Value} {odDName : Option Addr} {slDName : Array (Option Value)} {kVDName dcDName pmDName : Value} {anDName : Option Addr} {cdDName ctDName : Value}
    {ocDNames : Value} {odDNames : Option Addr} {slDNames : Array (Option Value)} {kVDNames dcDNames pmDNames : Value} {anDNames : Option Addr} {cdDNames ctDNames : Value}
    {ocDStep : Value} {odDStep : Option Addr} {slDStep : Array (Option Value)} {kVDStep dcDStep pmDStep : Value} {anDStep : Option Addr} {cdDStep ctDStep : Value}
    {ocDProgram : Value} {odDProgram : Option Addr} {slDProgram : Array (Option Value)} {kVDProgram dcDProgram pmDProgram : Value} {anDProgram : Option Addr} {cdDProgram ctDProgram : Value}
    {ocDAny_program : Value} {odDAny_program : Option Addr} {slDAny_program : Array (Option Value)} {kVDAny_program dcDAny_program pmDAny_program : Value} {anDAny_program : Option Addr} {cdDAny_program ctDAny_program : Value}
    {ocDCopy : Value} {odDCopy : Option Addr} {slDCopy : Array (Option Value)} {kVDCopy dcDCopy pmDCopy : Value} {anDCopy : Option Addr} {cdDCopy ctDCopy : Value}
    {ocDSome_program : Value} {odDSome_program : Option Addr} {slDSome_program : Array (Option Value)} {kVDSome_program dcDSome_program pmDSome_program : Value} {anDSome_program : Option Addr} {cdDSome_program ctDSome_program : Value}
    {ocDLaw : Value} {odDLaw : Option Addr} {slDLaw : Array (Option Value)} {kVDLaw dcDLaw pmDLaw : Value} {anDLaw : Option Addr} {cdDLaw ctDLaw : Value}
    {tkLONGEST_NAME : Tok}
    {tkMOST_STEPS : Tok}
    {tkMOST_PROCEDURES : Tok}
    {oKINDS : Obj} {itsKINDS : List Value} {nKINDS : Nat} {uKINDS0 uKINDS1 uKINDS2 uKINDS3 : Tok}
    {oCALLING_KINDS : Obj} {itsCALLING_KINDS : List Value} {nCALLING_KINDS : Nat} {uCALLING_KINDS0 uCALLING_KINDS1 : Tok}
    (aCCn : PySem.W.nsIn K mainGlobals "NameSet" = some (some (.ref Cn)))
    (pgCn : PySem.W.plainGet K Cn Str.empty = true) (hdCn : PySem.W.hasDictIn K Cn = true) (poCn : PySem.W.plainOver K Cn = true) (saCn : PySem.W.findIn K (.ref Cn) "__setattr__" = some (some (.builtin "object.__setattr__"))) (mkCn : PySem.W.makesIn K Cn = true) (kcCn : PySem.W.keepIn K (.ref Cn) = true)
    (haCn : PySem.W.findIn K (.ref Cn) "__class__" = some (some (.builtin "object.__class__"))) (hmCn : PySem.W.mroIn K Cn (.type "object") = some true) (ciCn : PySem.W.isClsIn K Cn = true) (ctCn : PySem.W.typeIn K (.ref Cn) = some (.type "type")) (kLCn : PySem.W.subIn K (.type "list") (.ref Cn) = some false) (kTCn : PySem.W.subIn K (.type "tuple") (.ref Cn) = some false)
    (neCn : PySem.W.findIn K (.ref Cn) "__ne__" = some (some (.builtin "object.__ne__"))) (sfCn : PySem.W.selfFirst K Cn = true)
    (nCnmembers : PySem.W.findIn K (.ref Cn) "members" = some none)
    (iaCn : PySem.W.findIn K (.ref Cn) "__init__" = some (some (.ref fICn))) (iiCn : PySem.W.isFn K (.ref fICn) = true) (ilCn : K.lookup fICn = some ⟨ocCn, odCn, .func (PySem.W.fnOf "__init__" "NameSet.__init__" (defArgs sNameSetInit) (defBody sNameSetInit) (defScope sNameSetInit) (.ref tDCn) kVCn dcCn pmCn anCn cdCn cuCn), slCn⟩) (icCn : PySem.W.codeIn K cdCn "NameSet.__init__" = true) (ikCn : PySem.W.keepIn K (.ref fICn) = true)
    (t1Cn : K.lookup tDCn = some o1Cn) (t2Cn : o1Cn.data = .seq itsCn.toArray n1Cn) (t3Cn : itsCn = [.ref t0Cn]) (t4Cn : K.lookup t0Cn = some o2Cn) (t5Cn : o2Cn.data = .seq ([] : List Value).toArray n2Cn) (t6Cn : o2Cn.cls = .type "tuple")
    (aCCp : PySem.W.nsIn K mainGlobals "Program" = some (some (.ref Cp)))
    (pgCp : PySem.W.plainGet K Cp Str.empty = true) (hdCp : PySem.W.hasDictIn K Cp = true) (poCp : PySem.W.plainOver K Cp = true) (saCp : PySem.W.findIn K (.ref Cp) "__setattr__" = some (some (.builtin "object.__setattr__"))) (mkCp : PySem.W.makesIn K Cp = true) (kcCp : PySem.W.keepIn K (.ref Cp) = true)
    (haCp : PySem.W.findIn K (.ref Cp) "__class__" = some (some (.builtin "object.__class__"))) (hmCp : PySem.W.mroIn K Cp (.type "object") = some true) (ciCp : PySem.W.isClsIn K Cp = true) (ctCp : PySem.W.typeIn K (.ref Cp) = some (.type "type")) (kLCp : PySem.W.subIn K (.type "list") (.ref Cp) = some false) (kTCp : PySem.W.subIn K (.type "tuple") (.ref Cp) = some false)
    (neCp : PySem.W.findIn K (.ref Cp) "__ne__" = some (some (.builtin "object.__ne__"))) (sfCp : PySem.W.selfFirst K Cp = true)
    (nCp_bodies : PySem.W.findIn K (.ref Cp) "_bodies" = some none)
    (nCpnames : PySem.W.findIn K (.ref Cp) "names" = some none)
    (nCpplaces : PySem.W.findIn K (.ref Cp) "places" = some none)
    (aICp : PySem.W.findIn K (.ref Cp) "__init__" = some (some (.ref fICp))) (lICp : K.lookup fICp = some ⟨ocICp, odICp, .func (PySem.W.fnOf "__init__" "Program.__init__" (defArgs sProgramInit) (defBody sProgramInit) (defScope sProgramInit) .none kVICp dcICp pmICp anICp cdICp ctICp), slICp⟩) (cICp : PySem.W.codeIn K cdICp "Program.__init__" = true) (kICp : PySem.W.keepIn K (.ref fICp) = true) (iICp : PySem.W.isFn K (.ref fICp) = true) (nICp : PySem.W.fnIn K fICp = true)
    (aCpeq : PySem.W.findIn K (.ref Cp) "__eq__" = some (some (.ref fCpeq))) (lCpeq : K.lookup fCpeq = some ⟨ocCpeq, odCpeq, .func (PySem.W.fnOf "__eq__" "Program.__eq__" (defArgs sProgramEq) (defBody sProgramEq) (defScope sProgramEq) .none kVCpeq dcCpeq pmCpeq anCpeq cdCpeq ctCpeq), slCpeq⟩) (cCpeq : PySem.W.codeIn K cdCpeq "Program.__eq__" = true) (kCpeq : PySem.W.keepIn K (.ref fCpeq) = true) (iCpeq : PySem.W.isFn K (.ref fCpeq) = true) (nCpeq : PySem.W.fnIn K fCpeq = true)
    (aCpgetitem : PySem.W.findIn K (.ref Cp) "__getitem__" = some (some (.ref fCpgetitem))) (lCpgetitem : K.lookup fCpgetitem = some ⟨ocCpgetitem, odCpgetitem, .func (PySem.W.fnOf "__getitem__" "Program.__getitem__" (defArgs sProgramGetitem) (defBody sProgramGetitem) (defScope sProgramGetitem) .none kVCpgetitem dcCpgetitem pmCpgetitem anCpgetitem cdCpgetitem ctCpgetitem), slCpgetitem⟩) (cCpgetitem : PySem.W.codeIn K cdCpgetitem "Program.__getitem__" = true) (kCpgetitem : PySem.W.keepIn K (.ref fCpgetitem) = true) (iCpgetitem : PySem.W.isFn K (.ref fCpgetitem) = true) (nCpgetitem : PySem.W.fnIn K fCpgetitem = true)
    (aCpcontains : PySem.W.findIn K (.ref Cp) "__contains__" = some (some (.ref fCpcontains))) (lCpcontains : K.lookup fCpcontains = some ⟨ocCpcontains, odCpcontains, .func (PySem.W.fnOf "__contains__" "Program.__contains__" (defArgs sProgramContains) (defBody sProgramContains) (defScope sProgramContains) .none kVCpcontains dcCpcontains pmCpcontains anCpcontains cdCpcontains ctCpcontains), slCpcontains⟩) (cCpcontains : PySem.W.codeIn K cdCpcontains "Program.__contains__" = true) (kCpcontains : PySem.W.keepIn K (.ref fCpcontains) = true) (iCpcontains : PySem.W.isFn K (.ref fCpcontains) = true) (nCpcontains : PySem.W.fnIn K fCpcontains = true)
    (aCplen : PySem.W.findIn K (.ref Cp) "__len__" = some (some (.ref fCplen))) (lCplen : K.lookup fCplen = some ⟨ocCplen, odCplen, .func (PySem.W.fnOf "__len__" "Program.__len__" (defArgs sProgramLen) (defBody sProgramLen) (defScope sProgramLen) .none kVCplen dcCplen pmCplen anCplen cdCplen ctCplen), slCplen⟩) (cCplen : PySem.W.codeIn K cdCplen "Program.__len__" = true) (kCplen : PySem.W.keepIn K (.ref fCplen) = true) (iCplen : PySem.W.isFn K (.ref fCplen) = true) (nCplen : PySem.W.fnIn K fCplen = true)
    (aCptext : PySem.W.findIn K (.ref Cp) "text" = some (some (.ref fCptext))) (lCptext : K.lookup fCptext = some ⟨ocCptext, odCptext, .func (PySem.W.fnOf "text" "Program.text" (defArgs sProgramText) (defBody sProgramText) (defScope sProgramText) .none kVCptext dcCptext pmCptext anCptext cdCptext ctCptext), slCptext⟩) (cCptext : PySem.W.codeIn K cdCptext "Program.text" = true) (kCptext : PySem.W.keepIn K (.ref fCptext) = true) (iCptext : PySem.W.isFn K (.ref fCptext) = true) (nCptext : PySem.W.fnIn K fCptext = true)
    (hn : PySem.W.specialIn K (.builtin "object.__class__") "__get__" = some (some (.builtin "getset_descriptor.__get__"))) (htk : PySem.W.takesIn K (.builtin "object.__class__") = some true)
    (aDIs_name : PySem.W.nsIn K mainGlobals "is_name" = some (some (.ref fDIs_name))) (lDIs_name : K.lookup fDIs_name = some ⟨ocDIs_name, odDIs_name, .func (PySem.W.fnOf "is_name" "is_name" (defArgs sIs_name) (defBody sIs_name) (defScope sIs_name) .none kVDIs_name dcDIs_name pmDIs_name anDIs_name cdDIs_name ctDIs_name), slDIs_name⟩) (cDIs_name : PySem.W.codeIn K cdDIs_name "is_name" = true) (kDIs_name : PySem.W.keepIn K (.ref fDIs_name) = true)
    (aDIs_step : PySem.W.nsIn K mainGlobals "_is_step" = some (some (.ref fDIs_step))) (lDIs_step : K.lookup fDIs_step = some ⟨ocDIs_step, odDIs_step, .func (PySem.W.fnOf "_is_step" "_is_step" (defArgs sIs_step) (defBody sIs_step) (defScope sIs_step) .none kVDIs_step dcDIs_step pmDIs_step anDIs_step cdDIs_step ctDIs_step), slDIs_step⟩) (cDIs_step : PySem.W.codeIn K cdDIs_step "_is_step" = true) (kDIs_step : PySem.W.keepIn K (.ref fDIs_step) = true)
    (aDIs_body : PySem.W.nsIn K mainGlobals "_is_body" = some (some (.ref fDIs_body))) (lDIs_body : K.lookup fDIs_body = some ⟨ocDIs_body, odDIs_body, .func (PySem.W.fnOf "_is_body" "_is_body" (defArgs sIs_body) (defBody sIs_body) (defScope sIs_body) .none kVDIs_body dcDIs_body pmDIs_body anDIs_body cdDIs_body ctDIs_body), slDIs_body⟩) (cDIs_body : PySem.W.codeIn K cdDIs_body "_is_body" = true) (kDIs_body : PySem.W.keepIn K (.ref fDIs_body) = true)
    (aDChecked_bodies : PySem.W.nsIn K mainGlobals "_checked_bodies" = some (some (.ref fDChecked_bodies))) (lDChecked_bodies : K.lookup fDChecked_bodies = some ⟨ocDChecked_bodies, odDChecked_bodies, .func (PySem.W.fnOf "_checked_bodies" "_checked_bodies" (defArgs sChecked_bodies) (defBody sChecked_bodies) (defScope sChecked_bodies) .none kVDChecked_bodies dcDChecked_bodies pmDChecked_bodies anDChecked_bodies cdDChecked_bodies ctDChecked_bodies), slDChecked_bodies⟩) (cDChecked_bodies : PySem.W.codeIn K cdDChecked_bodies "_checked_bodies" = true) (kDChecked_bodies : PySem.W.keepIn K (.ref fDChecked_bodies) = true)
    (aDCheck_callees : PySem.W.nsIn K mainGlobals "_check_callees" = some (some (.ref fDCheck_callees))) (lDCheck_callees : K.lookup fDCheck_callees = some ⟨ocDCheck_callees, odDCheck_callees, .func (PySem.W.fnOf "_check_callees" "_check_callees" (defArgs sCheck_callees) (defBody sCheck_callees) (defScope sCheck_callees) .none kVDCheck_callees dcDCheck_callees pmDCheck_callees anDCheck_callees cdDCheck_callees ctDCheck_callees), slDCheck_callees⟩) (cDCheck_callees : PySem.W.codeIn K cdDCheck_callees "_check_callees" = true) (kDCheck_callees : PySem.W.keepIn K (.ref fDCheck_callees) = true)
    (aDPlaces : PySem.W.nsIn K mainGlobals "_places" = some (some (.ref fDPlaces))) (lDPlaces : K.lookup fDPlaces = some ⟨ocDPlaces, odDPlaces, .func (PySem.W.fnOf "_places" "_places" (defArgs sPlaces) (defBody sPlaces) (defScope sPlaces) .none kVDPlaces dcDPlaces pmDPlaces anDPlaces cdDPlaces ctDPlaces), slDPlaces⟩) (cDPlaces : PySem.W.codeIn K cdDPlaces "_places" = true) (kDPlaces : PySem.W.keepIn K (.ref fDPlaces) = true)
    (aDLine : PySem.W.nsIn K mainGlobals "_line" = some (some (.ref fDLine))) (lDLine : K.lookup fDLine = some ⟨ocDLine, odDLine, .func (PySem.W.fnOf "_line" "_line" (defArgs sLine) (defBody sLine) (defScope sLine) .none kVDLine dcDLine pmDLine anDLine cdDLine ctDLine), slDLine⟩) (cDLine : PySem.W.codeIn K cdDLine "_line" = true) (kDLine : PySem.W.keepIn K (.ref fDLine) = true)
    (aDRFirst : PySem.W.nsIn K mainGlobals "_reads_first" = some (some (.ref fDRFirst))) (lDRFirst : K.lookup fDRFirst = some ⟨ocDRFirst, odDRFirst, .func (PySem.W.fnOf "_reads_first" "_reads_first" (defArgs sRFirst) (defBody sRFirst) (defScope sRFirst) .none kVDRFirst dcDRFirst pmDRFirst anDRFirst cdDRFirst ctDRFirst), slDRFirst⟩) (cDRFirst : PySem.W.codeIn K cdDRFirst "_reads_first" = true) (kDRFirst : PySem.W.keepIn K (.ref fDRFirst) = true)
    (aDReads_first : PySem.W.nsIn K mainGlobals "reads_first" = some (some (.ref fDReads_first))) (lDReads_first : K.lookup fDReads_first = some ⟨ocDReads_first, odDReads_first, .func (PySem.W.fnOf "reads_first" "reads_first" (defArgs sReads_first) (defBody sReads_first) (defScope sReads_first) .none kVDReads_first dcDReads_first pmDReads_first anDReads_first cdDReads_first ctDReads_first), slDReads_first⟩) (cDReads_first : PySem.W.codeIn K cdDReads_first "reads_first" = true) (kDReads_first : PySem.W.keepIn K (.ref fDReads_first) = true)
    (aDSource : PySem.W.nsIn K mainGlobals "_law_source" = some (some (.ref fDSource))) (lDSource : K.lookup fDSource = some ⟨ocDSource, odDSource, .func (PySem.W.fnOf "_law_source" "_law_source" (defArgs sSource) (defBody sSource) (defScope sSource) .none kVDSource dcDSource pmDSource anDSource cdDSource ctDSource), slDSource⟩) (cDSource : PySem.W.codeIn K cdDSource "_law_source" = true) (kDSource : PySem.W.keepIn K (.ref fDSource) = true)
    (aDDraw : PySem.W.nsIn K mainGlobals "_law_draw" = some (some (.ref fDDraw))) (lDDraw : K.lookup fDDraw = some ⟨ocDDraw, odDDraw, .func (PySem.W.fnOf "_law_draw" "_law_draw" (defArgs sDraw) (defBody sDraw) (defScope sDraw) .none kVDDraw dcDDraw pmDDraw anDDraw cdDDraw ctDDraw), slDDraw⟩) (cDDraw : PySem.W.codeIn K cdDDraw "_law_draw" = true) (kDDraw : PySem.W.keepIn K (.ref fDDraw) = true)
    (aDName : PySem.W.nsIn K mainGlobals "_law_name" = some (some (.ref fDName))) (lDName : K.lookup fDName = some ⟨ocDName, odDName, .func (PySem.W.fnOf "_law_name" "_law_name" (defArgs sName) (defBody sName) (defScope sName) .none kVDName dcDName pmDName anDName cdDName ctDName), slDName⟩) (cDName : PySem.W.codeIn K cdDName "_law_name" = true) (kDName : PySem.W.keepIn K (.ref fDName) = true)
    (aDNames : PySem.W.nsIn K mainGlobals "_law_names" = some (some (.ref fDNames))) (lDNames : K.lookup fDNames = some ⟨ocDNames, odDNames, .func (PySem.W.fnOf "_law_names" "_law_names" (defArgs sNames) (defBody sNames) (defScope sNames) .none kVDNames dcDNames pmDNames anDNames cdDNames ctDNames), slDNames⟩) (cDNames : PySem.W.codeIn K cdDNames "_law_names" = true) (kDNames : PySem.W.keepIn K (.ref fDNames) = true)
    (aDStep : PySem.W.nsIn K mainGlobals "_law_step" = some (some (.ref fDStep))) (lDStep : K.lookup fDStep = some ⟨ocDStep, odDStep, .func (PySem.W.fnOf "_law_step" "_law_step" (defArgs sStep) (defBody sStep) (defScope sStep) .none kVDStep dcDStep pmDStep anDStep cdDStep ctDStep), slDStep⟩) (cDStep : PySem.W.codeIn K cdDStep "_law_step" = true) (kDStep : PySem.W.keepIn K (.ref fDStep) = true)
    (aDProgram : PySem.W.nsIn K mainGlobals "_law_program" = some (some (.ref fDProgram))) (lDProgram : K.lookup fDProgram = some ⟨ocDProgram, odDProgram, .func (PySem.W.fnOf "_law_program" "_law_program" (defArgs sProgram) (defBody sProgram) (defScope sProgram) .none kVDProgram dcDProgram pmDProgram anDProgram cdDProgram ctDProgram), slDProgram⟩) (cDProgram : PySem.W.codeIn K cdDProgram "_law_program" = true) (kDProgram : PySem.W.keepIn K (.ref fDProgram) = true)
    (aDAny_program : PySem.W.nsIn K mainGlobals "_law_any_program" = some (some (.ref fDAny_program))) (lDAny_program : K.lookup fDAny_program = some ⟨ocDAny_program, odDAny_program, .func (PySem.W.fnOf "_law_any_program" "_law_any_program" (defArgs sAny_program) (defBody sAny_program) (defScope sAny_program) .none kVDAny_program dcDAny_program pmDAny_program anDAny_program cdDAny_program ctDAny_program), slDAny_program⟩) (cDAny_program : PySem.W.codeIn K cdDAny_program "_law_any_program" = true) (kDAny_program : PySem.W.keepIn K (.ref fDAny_program) = true)
    (aDCopy : PySem.W.nsIn K mainGlobals "_law_copy" = some (some (.ref fDCopy))) (lDCopy : K.lookup fDCopy = some ⟨ocDCopy, odDCopy, .func (PySem.W.fnOf "_law_copy" "_law_copy" (defArgs sCopy) (defBody sCopy) (defScope sCopy) .none kVDCopy dcDCopy pmDCopy anDCopy cdDCopy ctDCopy), slDCopy⟩) (cDCopy : PySem.W.codeIn K cdDCopy "_law_copy" = true) (kDCopy : PySem.W.keepIn K (.ref fDCopy) = true)
    (aDSome_program : PySem.W.nsIn K mainGlobals "_law_some_program" = some (some (.ref fDSome_program))) (lDSome_program : K.lookup fDSome_program = some ⟨ocDSome_program, odDSome_program, .func (PySem.W.fnOf "_law_some_program" "_law_some_program" (defArgs sSome_program) (defBody sSome_program) (defScope sSome_program) .none kVDSome_program dcDSome_program pmDSome_program anDSome_program cdDSome_program ctDSome_program), slDSome_program⟩) (cDSome_program : PySem.W.codeIn K cdDSome_program "_law_some_program" = true) (kDSome_program : PySem.W.keepIn K (.ref fDSome_program) = true)
    (aDLaw : PySem.W.nsIn K mainGlobals "law" = some (some (.ref fDLaw))) (lDLaw : K.lookup fDLaw = some ⟨ocDLaw, odDLaw, .func (PySem.W.fnOf "law" "law" (defArgs sLaw) (defBody sLaw) (defScope sLaw) .none kVDLaw dcDLaw pmDLaw anDLaw cdDLaw ctDLaw), slDLaw⟩) (cDLaw : PySem.W.codeIn K cdDLaw "law" = true) (kDLaw : PySem.W.keepIn K (.ref fDLaw) = true)
    (aLONGEST_NAME : PySem.W.nsIn K mainGlobals "LONGEST_NAME" = some (some (.int 8 tkLONGEST_NAME)))
    (aMOST_STEPS : PySem.W.nsIn K mainGlobals "MOST_STEPS" = some (some (.int 12 tkMOST_STEPS)))
    (aMOST_PROCEDURES : PySem.W.nsIn K mainGlobals "MOST_PROCEDURES" = some (some (.int 16 tkMOST_PROCEDURES)))
    (aKINDS : PySem.W.nsIn K mainGlobals "KINDS" = some (some (.ref xKINDS))) (lKINDS : K.lookup xKINDS = some oKINDS) (dKINDS : oKINDS.data = .seq itsKINDS.toArray nKINDS) (iKINDS : itsKINDS = [.str "read" uKINDS0, .str "say" uKINDS1, .str "call" uKINDS2, .str "try" uKINDS3]) (cKINDS : oKINDS.cls = .type "tuple")
    (aCALLING_KINDS : PySem.W.nsIn K mainGlobals "CALLING_KINDS" = some (some (.ref xCALLING_KINDS))) (lCALLING_KINDS : K.lookup xCALLING_KINDS = some oCALLING_KINDS) (dCALLING_KINDS : oCALLING_KINDS.data = .seq itsCALLING_KINDS.toArray nCALLING_KINDS) (iCALLING_KINDS : itsCALLING_KINDS = [.str "call" uCALLING_KINDS0, .str "try" uCALLING_KINDS1]) (cCALLING_KINDS : oCALLING_KINDS.cls = .type "tuple")
    (zint : PySem.W.nsIn K mainGlobals "int" = some none)
    (zenumerate : PySem.W.nsIn K mainGlobals "enumerate" = some none)
    (zrange : PySem.W.nsIn K mainGlobals "range" = some none)
    (zlist : PySem.W.nsIn K mainGlobals "list" = some none)
    (ztuple : PySem.W.nsIn K mainGlobals "tuple" = some none)
    (zsorted : PySem.W.nsIn K mainGlobals "sorted" = some none)
    (zstr : PySem.W.nsIn K mainGlobals "str" = some none)
    (zall : PySem.W.nsIn K mainGlobals "all" = some none)
    (zany : PySem.W.nsIn K mainGlobals "any" = some none)
    (zisinstance : PySem.W.nsIn K mainGlobals "isinstance" = some none)
    (zbool : PySem.W.nsIn K mainGlobals "bool" = some none)
    (zlen : PySem.W.nsIn K mainGlobals "len" = some none)
    (zset : PySem.W.nsIn K mainGlobals "set" = some none) :
    ∃ fd : FuncData, (∀ (s : Shared) (v : Value), BindsTo s fd ⟨[v], []⟩ [("_law_script", v)]) ∧ ∀ base : Heap, K.In base → base.Ns mainGlobals mg → FnOk l.prog w K mg base CX0 8 fa fd ["_law_script"] (spLaw K) := by
  have mICp : MetF K Cp "__init__" "Program.__init__" sProgramInit fICp := ⟨⟨_, _, _, _, _, _, _, _, _, aICp, lICp, cICp, kICp, iICp, nICp⟩⟩
  have mCpeq : MetF K Cp "__eq__" "Program.__eq__" sProgramEq fCpeq := ⟨⟨_, _, _, _, _, _, _, _, _, aCpeq, lCpeq, cCpeq, kCpeq, iCpeq, nCpeq⟩⟩
  have mCpgetitem : MetF K Cp "__getitem__" "Program.__getitem__" sProgramGetitem fCpgetitem := ⟨⟨_, _, _, _, _, _, _, _, _, aCpgetitem, lCpgetitem, cCpgetitem, kCpgetitem, iCpgetitem, nCpgetitem⟩⟩
  have mCpcontains : MetF K Cp "__contains__" "Program.__contains__" sProgramContains fCpcontains := ⟨⟨_, _, _, _, _, _, _, _, _, aCpcontains, lCpcontains, cCpcontains, kCpcontains, iCpcontains, nCpcontains⟩⟩
  have mCplen : MetF K Cp "__len__" "Program.__len__" sProgramLen fCplen := ⟨⟨_, _, _, _, _, _, _, _, _, aCplen, lCplen, cCplen, kCplen, iCplen, nCplen⟩⟩
  have mCptext : MetF K Cp "text" "Program.text" sProgramText fCptext := ⟨⟨_, _, _, _, _, _, _, _, _, aCptext, lCptext, cCptext, kCptext, iCptext, nCptext⟩⟩
  have dDIs_name : DefF K "is_name" sIs_name fDIs_name := ⟨⟨_, _, _, _, _, _, _, _, _, aDIs_name, lDIs_name, cDIs_name, kDIs_name⟩⟩
  have dDIs_step : DefF K "_is_step" sIs_step fDIs_step := ⟨⟨_, _, _, _, _, _, _, _, _, aDIs_step, lDIs_step, cDIs_step, kDIs_step⟩⟩
  have dDIs_body : DefF K "_is_body" sIs_body fDIs_body := ⟨⟨_, _, _, _, _, _, _, _, _, aDIs_body, lDIs_body, cDIs_body, kDIs_body⟩⟩
  have dDChecked_bodies : DefF K "_checked_bodies" sChecked_bodies fDChecked_bodies := ⟨⟨_, _, _, _, _, _, _, _, _, aDChecked_bodies, lDChecked_bodies, cDChecked_bodies, kDChecked_bodies⟩⟩
  have dDCheck_callees : DefF K "_check_callees" sCheck_callees fDCheck_callees := ⟨⟨_, _, _, _, _, _, _, _, _, aDCheck_callees, lDCheck_callees, cDCheck_callees, kDCheck_callees⟩⟩
  have dDPlaces : DefF K "_places" sPlaces fDPlaces := ⟨⟨_, _, _, _, _, _, _, _, _, aDPlaces, lDPlaces, cDPlaces, kDPlaces⟩⟩
  have dDLine : DefF K "_line" sLine fDLine := ⟨⟨_, _, _, _, _, _, _, _, _, aDLine, lDLine, cDLine, kDLine⟩⟩
  have dDRFirst : DefF K "_reads_first" sRFirst fDRFirst := ⟨⟨_, _, _, _, _, _, _, _, _, aDRFirst, lDRFirst, cDRFirst, kDRFirst⟩⟩
  have dDReads_first : DefF K "reads_first" sReads_first fDReads_first := ⟨⟨_, _, _, _, _, _, _, _, _, aDReads_first, lDReads_first, cDReads_first, kDReads_first⟩⟩
  have dDSource : DefF K "_law_source" sSource fDSource := ⟨⟨_, _, _, _, _, _, _, _, _, aDSource, lDSource, cDSource, kDSource⟩⟩
  have dDDraw : DefF K "_law_draw" sDraw fDDraw := ⟨⟨_, _, _, _, _, _, _, _, _, aDDraw, lDDraw, cDDraw, kDDraw⟩⟩
  have dDName : DefF K "_law_name" sName fDName := ⟨⟨_, _, _, _, _, _, _, _, _, aDName, lDName, cDName, kDName⟩⟩
  have dDNames : DefF K "_law_names" sNames fDNames := ⟨⟨_, _, _, _, _, _, _, _, _, aDNames, lDNames, cDNames, kDNames⟩⟩
  have dDStep : DefF K "_law_step" sStep fDStep := ⟨⟨_, _, _, _, _, _, _, _, _, aDStep, lDStep, cDStep, kDStep⟩⟩
  have dDProgram : DefF K "_law_program" sProgram fDProgram := ⟨⟨_, _, _, _, _, _, _, _, _, aDProgram, lDProgram, cDProgram, kDProgram⟩⟩
  have dDAny_program : DefF K "_law_any_program" sAny_program fDAny_program := ⟨⟨_, _, _, _, _, _, _, _, _, aDAny_program, lDAny_program, cDAny_program, kDAny_program⟩⟩
  have dDCopy : DefF K "_law_copy" sCopy fDCopy := ⟨⟨_, _, _, _, _, _, _, _, _, aDCopy, lDCopy, cDCopy, kDCopy⟩⟩
  have dDSome_program : DefF K "_law_some_program" sSome_program fDSome_program := ⟨⟨_, _, _, _, _, _, _, _, _, aDSome_program, lDSome_program, cDSome_program, kDSome_program⟩⟩
  have dDLaw : DefF K "law" sLaw fDLaw := ⟨⟨_, _, _, _, _, _, _, _, _, aDLaw, lDLaw, cDLaw, kDLaw⟩⟩
  have vLONGEST_NAME : mg "LONGEST_NAME" = some (.int 8 tkLONGEST_NAME) := PySem.W.mg_of X G aLONGEST_NAME
  have vMOST_STEPS : mg "MOST_STEPS" = some (.int 12 tkMOST_STEPS) := PySem.W.mg_of X G aMOST_STEPS
  have vMOST_PROCEDURES : mg "MOST_PROCEDURES" = some (.int 16 tkMOST_PROCEDURES) := PySem.W.mg_of X G aMOST_PROCEDURES
  have vKINDS : mg "KINDS" = some (.ref xKINDS) := PySem.W.mg_of X G aKINDS
  have qKINDS : ∀ H, SqT K H xKINDS ([("read" : Str), ("say" : Str), ("call" : Str), ("try" : Str)].map V.str) := fun H => .inr ⟨oKINDS, itsKINDS.toArray, nKINDS, lKINDS, cKINDS, dKINDS, by rw [iKINDS]; show 4 ≤ sizeLine; decide, by rw [iKINDS]; exact (.cons ⟨uKINDS0, rfl⟩ (.cons ⟨uKINDS1, rfl⟩ (.cons ⟨uKINDS2, rfl⟩ (.cons ⟨uKINDS3, rfl⟩ .nil))))⟩
  have vCALLING_KINDS : mg "CALLING_KINDS" = some (.ref xCALLING_KINDS) := PySem.W.mg_of X G aCALLING_KINDS
  have qCALLING_KINDS : ∀ H, SqT K H xCALLING_KINDS ([("call" : Str), ("try" : Str)].map V.str) := fun H => .inr ⟨oCALLING_KINDS, itsCALLING_KINDS.toArray, nCALLING_KINDS, lCALLING_KINDS, cCALLING_KINDS, dCALLING_KINDS, by rw [iCALLING_KINDS]; show 2 ≤ sizeLine; decide, by rw [iCALLING_KINDS]; exact (.cons ⟨uCALLING_KINDS0, rfl⟩ (.cons ⟨uCALLING_KINDS1, rfl⟩ .nil))⟩
  have vint : mg "int" = none := PySem.W.mg_none_of X G zint
  have venumerate : mg "enumerate" = none := PySem.W.mg_none_of X G zenumerate
  have vrange : mg "range" = none := PySem.W.mg_none_of X G zrange
  have vlist : mg "list" = none := PySem.W.mg_none_of X G zlist
  have vtuple : mg "tuple" = none := PySem.W.mg_none_of X G ztuple
  have vsorted : mg "sorted" = none := PySem.W.mg_none_of X G zsorted
  have vstr : mg "str" = none := PySem.W.mg_none_of X G zstr
  have vall : mg "all" = none := PySem.W.mg_none_of X G zall
  have vany : mg "any" = none := PySem.W.mg_none_of X G zany
  have visinstance : mg "isinstance" = none := PySem.W.mg_none_of X G zisinstance
  have vbool : mg "bool" = none := PySem.W.mg_none_of X G zbool
  have vlen : mg "len" = none := PySem.W.mg_none_of X G zlen
  have vset : mg "set" = none := PySem.W.mg_none_of X G zset
  have q0Cn : ∀ H, SqT K H t0Cn [] := fun H => .inr ⟨o2Cn, #[], n2Cn, t4Cn, t6Cn, t5Cn, Nat.zero_le _, .nil⟩
  subst t3Cn
  have insCn : C8.InsC K Cn := ⟨⟨pgCn, hdCn, poCn, saCn⟩, haCn, hn, htk, hmCn, kit_self⟩
  have TCn : NsC K mg Cn := ⟨insCn, nCnmembers, PySem.W.mg_of X G aCCn, kit_own ciCn ctCn kLCn, kit_own ciCn ctCn kTCn, notFirst_of kTCn, notFirst_of kLCn, visinstance, vtuple, vsorted, vset, vall, vlen⟩
  have insCp : C8.InsC K Cp := ⟨⟨pgCp, hdCp, poCp, saCp⟩, haCp, hn, htk, hmCp, kit_self⟩
  have TCp : PgC K mg Cp := ⟨insCp, nCp_bodies, nCpnames, nCpplaces, PySem.W.mg_of X G aCCp, kit_own ciCp ctCp kLCp, kit_own ciCp ctCp kTCp, notFirst_of kTCp, notFirst_of kLCp, visinstance, vtuple, vlen⟩
  refine dDLaw.law X G hfa (fun _ _ _ _ _ _ s v => .of_eq rfl) fun base _ _ fd FL => ?_
  have c_is_name : Cal l.prog w K mg base CX0 1 "is_name" ["value"] spIsName := dDIs_name.cal X G (fun _ _ _ _ _ _ us hl => match us, hl with | [_], _ => rfl) fun fd F => ok_is_name F visinstance vstr vlen vall vLONGEST_NAME
  have c__is_step : Cal l.prog w K mg base CX0 2 "_is_step" ["step"] spIsStep := dDIs_step.cal X G (fun _ _ _ _ _ _ us hl => match us, hl with | [_], _ => rfl) fun fd F => ok_is_step F visinstance vtuple vlen vKINDS qKINDS c_is_name
  have c__is_body : Cal l.prog w K mg base CX0 3 "_is_body" ["steps"] (spIsBody K) := dDIs_body.cal X G (fun _ _ _ _ _ _ us hl => match us, hl with | [_], _ => rfl) fun fd F => ok_is_body F vlen vall vMOST_STEPS c__is_step
  have c__checked_bodies : Cal l.prog w K mg base CX0 4 "_checked_bodies" ["procedures"] (spChecked K) := dDChecked_bodies.cal X G (fun _ _ _ _ _ _ us hl => match us, hl with | [_], _ => rfl) fun fd F => ok_checked F venumerate vtuple vMOST_PROCEDURES c_is_name c__is_body
  have c__check_callees : Cal l.prog w K mg base CX0 1 "_check_callees" ["bodies"] (spCallees K) := dDCheck_callees.cal X G (fun _ _ _ _ _ _ us hl => match us, hl with | [_], _ => rfl) fun fd F => ok_callees F venumerate vCALLING_KINDS qCALLING_KINDS
  have FICn : FunD K "__init__" "NameSet.__init__" (defArgs sNameSetInit) (defBody sNameSetInit) (defScope sNameSetInit) [.ref t0Cn] [] fICn _ := ⟨⟨ocCn, odCn, .ref tDCn, kVCn, dcCn, pmCn, anCn, cdCn, cuCn, slCn, rfl, ilCn, icCn, .inr ⟨by simp, tDCn, o1Cn, _, n1Cn, rfl, t1Cn, t2Cn, .cons rfl .nil⟩, .inl rfl⟩, ikCn⟩
  have okICn : FnOk l.prog w K mg base CX0 1 fICn _ ["self", "names"] (spNsInit K Cn) := ok_nsInit FICn TCn
  obtain ⟨ds1Cn, r1Cn, b1Cn⟩ := FICn.binds1 (ps := ["self", "names"]) 2 1 (by simp) rfl fun _ _ _ _ _ _ _ us its hu hi => match us, its, hu, hi with | [_, _], [_], _, _ => ⟨_, rfl, rfl⟩
  obtain ⟨ds0Cn, r0Cn, b0Cn⟩ := FICn.binds1 (ps := ["self", "names"]) 1 0 (by simp) rfl fun _ _ _ _ _ _ _ us its hu hi => match us, its, hu, hi with | [_], [_], _, _ => ⟨_, rfl, rfl⟩
  have mk1Cn : CalC l.prog w K mg base CX0 1 "NameSet" Cn ["self", "names"] (spNsInit K Cn) [] := ⟨⟨fICn, _, ds1Cn, ⟨mkCn, iaCn, iiCn, kcCn⟩, okICn, TCn.mgC, b1Cn, r1Cn⟩⟩
  have mk0Cn : CalC l.prog w K mg base CX0 1 "NameSet" Cn ["self", "names"] (spNsInit K Cn) [.ref t0Cn] := ⟨⟨fICn, _, ds0Cn, ⟨mkCn, iaCn, iiCn, kcCn⟩, okICn, TCn.mgC, b0Cn, r0Cn⟩⟩
  have c__places : Cal l.prog w K mg base CX0 3 "_places" ["bodies"] (spPlaces K) := dDPlaces.cal X G (fun _ _ _ _ _ _ us hl => match us, hl with | [_], _ => rfl) fun fd F => ok_places F TCn mk1Cn
  have mk1Cp : CalC l.prog w K mg base CX0 5 "Program" Cp ["self", "procedures"] (spPgInit K Cp) [] := mICp.calC mkCp kcCp TCp.mgC (fun _ _ _ _ _ _ us hl => match us, hl with | [_, _], _ => rfl) fun fd F => ok_pgInit F TCp c__checked_bodies c__check_callees c__places
  have oCpeq : CalM l.prog w K mg base CX0 2 Cp "__eq__" ["self", "other"] (spPgEq K Cp) := mCpeq.cal (fun _ _ _ _ _ _ us hl => match us, hl with | [_, _], _ => rfl) fun fd F => ok_pgEq F TCp
  have oCpgetitem : CalM l.prog w K mg base CX0 1 Cp "__getitem__" ["self", "name"] (spPgGet K Cp) := mCpgetitem.cal (fun _ _ _ _ _ _ us hl => match us, hl with | [_, _], _ => rfl) fun fd F => ok_pgGet F TCp
  have oCpcontains : CalM l.prog w K mg base CX0 1 Cp "__contains__" ["self", "name"] (spPgHas K Cp) := mCpcontains.cal (fun _ _ _ _ _ _ us hl => match us, hl with | [_, _], _ => rfl) fun fd F => ok_pgHas F TCp
  have oCplen : CalM l.prog w K mg base CX0 1 Cp "__len__" ["self"] (spPgLen K Cp) := mCplen.cal (fun _ _ _ _ _ _ us hl => match us, hl with | [_], _ => rfl) fun fd F => ok_pgLen F TCp
  have O : PgOps l.prog w K mg base Cp := ⟨oCpeq, oCpgetitem, oCpcontains, oCplen, neCp⟩
  have c__line : Cal l.prog w K mg base CX0 1 "_line" ["name", "body"] (spLine K) := dDLine.cal X G (fun _ _ _ _ _ _ us hl => match us, hl with | [_, _], _ => rfl) fun fd F => ok_line F
  have oCptext : CalM l.prog w K mg base CX0 2 Cp "text" ["self"] (spText K Cp) := mCptext.cal (fun _ _ _ _ _ _ us hl => match us, hl with | [_], _ => rfl) fun fd F => ok_text F TCp c__line
  have c__reads_first : Cal l.prog w K mg base CX0 1 "_reads_first" ["body"] (spRF K) := dDRFirst.cal X G (fun _ _ _ _ _ _ us hl => match us, hl with | [_], _ => rfl) fun fd F => ok_rfirst F
  have c_reads_first : Cal l.prog w K mg base CX0 7 "reads_first" ["program"] (spRFP K Cp) := dDReads_first.cal X G (fun _ _ _ _ _ _ us hl => match us, hl with | [_], _ => rfl) fun fd F => ok_reads_first F TCp O mk1Cp c__reads_first
  have c_source : Cal l.prog w K mg base CX0 1 "_law_source" ["_law_script"] (spSource K) := dDSource.cal X G (fun _ _ _ _ _ _ us hl => match us, hl with | [_], _ => rfl) fun fd F => ok_source F vint venumerate
  have c_draw : Cal l.prog w K mg base CX0 1 "_law_draw" ["_law_source_here", "_law_many"] spDraw := dDDraw.cal X G (fun _ _ _ _ _ _ us hl => match us, hl with | [_, _], _ => rfl) fun fd F => ok_draw F vint
  have c_name : Cal l.prog w K mg base CX0 2 "_law_name" ["_law_source_here", "_law_taken"] (spName K) := dDName.cal X G (fun _ _ _ _ _ _ us hl => match us, hl with | [_, _], _ => rfl) fun fd F => ok_name F c_draw vrange
  have c_names : Cal l.prog w K mg base CX0 3 "_law_names" ["_law_source_here", "_law_many"] spNames := dDNames.cal X G (fun _ _ _ _ _ _ us hl => match us, hl with | [_, _], _ => rfl) fun fd F => ok_names F c_name vrange vlist
  have c_step : Cal l.prog w K mg base CX0 3 "_law_step" ["_law_source_here", "_law_names_here", "_law_places"] spStep := dDStep.cal X G (fun _ _ _ _ _ _ us hl => match us, hl with | [_, _, _], _ => rfl) fun fd F => ok_step F c_draw c_name vlen vint
  have c_program : Cal l.prog w K mg base CX0 4 "_law_program" ["_law_source_here", "_law_most"] spProgram := dDProgram.cal X G (fun _ _ _ _ _ _ us hl => match us, hl with | [_, _], _ => rfl) fun fd F => ok_program F c_draw c_names c_step vrange vint
  have c_some_program : Cal l.prog w K mg base CX0 4 "_law_some_program" ["_law_source_here", "_law_most"] spProgram := dDSome_program.cal X G (fun _ _ _ _ _ _ us hl => match us, hl with | [_, _], _ => rfl) fun fd F => ok_some_program F c_draw c_names c_step vrange vint vlen
  have c_any_program : Cal l.prog w K mg base CX0 5 "_law_any_program" ["_law_source_here"] spAny := dDAny_program.cal X G (fun _ _ _ _ _ _ us hl => match us, hl with | [_], _ => rfl) fun fd F => ok_any_program F c_draw c_names c_step c_program vrange
  have c_copy : Cal l.prog w K mg base CX0 1 "_law_copy" ["_law_procedures"] spCopy := dDCopy.cal X G (fun _ _ _ _ _ _ us hl => match us, hl with | [_], _ => rfl) fun fd F => ok_copy F vlist
  exact ok_law FL TCp O oCptext mk1Cp c_source c_draw c_any_program c_some_program c_copy c_reads_first vany
end Mf
open PySem PySem.W PyProof.Rows
set_option maxRecDepth 100000 in
set_option maxHeartbeats 0 in
theorem PySem.Challenge.cw_midfall_k83_reads_first_told_holds : PySem.Challenge.rw_midfall_k83_reads_first_told.Holds := by
  w_on; o_law; k_head; (case hw => w_witness2)
  k_fill
  refine Mf.walk (n := 8) (l := PySem.Challenge.rw_midfall_k83_reads_first_told) rfl rfl ⟨rfl, by decide, by decide⟩ (fun w h Y => PySem.W.kIn_of Y) ?F
  case F =>
    intro w mg fa h KX G hmg
    refine' Mf.all_mk KX G hmg ?aCCn ?pgCn ?hdCn ?poCn ?saCn ?mkCn ?kcCn ?haCn ?hmCn ?ciCn ?ctCn ?kLCn ?kTCn ?neCn ?sfCn ?nCnmembers ?iaCn ?iiCn ?ilCn ?icCn ?ikCn ?t1Cn ?t2Cn ?t3Cn ?t4Cn ?t5Cn ?t6Cn ?aCCp ?pgCp ?hdCp ?poCp ?saCp ?mkCp ?kcCp ?haCp ?hmCp ?ciCp ?ctCp ?kLCp ?kTCp ?neCp ?sfCp ?nCp_bodies ?nCpnames ?nCpplaces ?aICp ?lICp ?cICp ?kICp ?iICp ?nICp ?aCpeq ?lCpeq ?cCpeq ?kCpeq ?iCpeq ?nCpeq ?aCpgetitem ?lCpgetitem ?cCpgetitem ?kCpgetitem ?iCpgetitem ?nCpgetitem ?aCpcontains ?lCpcontains ?cCpcontains ?kCpcontains ?iCpcontains ?nCpcontains ?aCplen ?lCplen ?cCplen ?kCplen ?iCplen ?nCplen ?aCptext ?lCptext ?cCptext ?kCptext ?iCptext ?nCptext ?hn ?htk ?aDIs_name ?lDIs_name ?cDIs_name ?kDIs_name ?aDIs_step ?lDIs_step ?cDIs_step ?kDIs_step ?aDIs_body ?lDIs_body ?cDIs_body ?kDIs_body ?aDChecked_bodies ?lDChecked_bodies ?cDChecked_bodies ?kDChecked_bodies ?aDCheck_callees ?lDCheck_callees ?cDCheck_callees ?kDCheck_callees ?aDPlaces ?lDPlaces ?cDPlaces ?kDPlaces ?aDLine ?lDLine ?cDLine ?kDLine ?aDRFirst ?lDRFirst ?cDRFirst ?kDRFirst ?aDReads_first ?lDReads_first ?cDReads_first ?kDReads_first ?aDSource ?lDSource ?cDSource ?kDSource ?aDDraw ?lDDraw ?cDDraw ?kDDraw ?aDName ?lDName ?cDName ?kDName ?aDNames ?lDNames ?cDNames ?kDNames ?aDStep ?lDStep ?cDStep ?kDStep ?aDProgram ?lDProgram ?cDProgram ?kDProgram ?aDAny_program ?lDAny_program ?cDAny_program ?kDAny_program ?aDCopy ?lDCopy ?cDCopy ?kDCopy ?aDSome_program ?lDSome_program ?cDSome_program ?kDSome_program ?aDLaw ?lDLaw ?cDLaw ?kDLaw ?aLONGEST_NAME ?aMOST_STEPS ?aMOST_PROCEDURES ?aKINDS ?lKINDS ?dKINDS ?iKINDS ?cKINDS ?aCALLING_KINDS ?lCALLING_KINDS ?dCALLING_KINDS ?iCALLING_KINDS ?cCALLING_KINDS ?zint ?zenumerate ?zrange ?zlist ?ztuple ?zsorted ?zstr ?zall ?zany ?zisinstance ?zbool ?zlen ?zset
    (case aCCn => k_is)
    (case pgCn => k_is)
    (case hdCn => k_is)
    (case poCn => k_is)
    (case saCn => k_is)
    (case mkCn => k_is)
    (case kcCn => k_is)
    (case haCn => k_is)
    (case hmCn => k_is)
    (case ciCn => k_is)
    (case ctCn => k_is)
    (case kLCn => k_is)
    (case kTCn => k_is)
    (case neCn => k_is)
    (case sfCn => k_is)
    (case nCnmembers => k_is)
    (case iaCn => k_is)
    (case iiCn => k_is)
    (case ilCn => k_is)
    (case icCn => k_is)
    (case ikCn => k_is)
    (case t1Cn => k_is)
    (case t2Cn => rfl)
    (case t3Cn => rfl)
    (case t4Cn => k_is)
    (case t5Cn => rfl)
    (case t6Cn => rfl)
    (case aCCp => k_is)
    (case pgCp => k_is)
    (case hdCp => k_is)
    (case poCp => k_is)
    (case saCp => k_is)
    (case mkCp => k_is)
    (case kcCp => k_is)
    (case haCp => k_is)
    (case hmCp => k_is)
    (case ciCp => k_is)
    (case ctCp => k_is)
    (case kLCp => k_is)
    (case kTCp => k_is)
    (case neCp => k_is)
    (case sfCp => k_is)
    (case nCp_bodies => k_is)
    (case nCpnames => k_is)
    (case nCpplaces => k_is)
    (case aICp => k_is)
    (case lICp => k_is)
    (case cICp => k_is)
    (case kICp => k_is)
    (case iICp => k_is)
    (case nICp => k_is)
    (case aCpeq => k_is)
    (case lCpeq => k_is)
    (case cCpeq => k_is)
    (case kCpeq => k_is)
    (case iCpeq => k_is)
    (case nCpeq => k_is)
    (case aCpgetitem => k_is)
    (case lCpgetitem => k_is)
    (case cCpgetitem => k_is)
    (case kCpgetitem => k_is)
    (case iCpgetitem => k_is)
    (case nCpgetitem => k_is)
    (case aCpcontains => k_is)
    (case lCpcontains => k_is)
    (case cCpcontains => k_is)
    (case kCpcontains => k_is)
    (case iCpcontains => k_is)
    (case nCpcontains => k_is)
    (case aCplen => k_is)
    (case lCplen => k_is)
    (case cCplen => k_is)
    (case kCplen => k_is)
    (case iCplen => k_is)
    (case nCplen => k_is)
    (case aCptext => k_is)
    (case lCptext => k_is)
    (case cCptext => k_is)
    (case kCptext => k_is)
    (case iCptext => k_is)
    (case nCptext => k_is)
    (case hn => k_is)
    (case htk => k_is)
    (case aDIs_name => k_is)
    (case lDIs_name => k_is)
    (case cDIs_name => k_is)
    (case kDIs_name => k_is)
    (case aDIs_step => k_is)
    (case lDIs_step => k_is)
    (case cDIs_step => k_is)
    (case kDIs_step => k_is)
    (case aDIs_body => k_is)
    (case lDIs_body => k_is)
    (case cDIs_body => k_is)
    (case kDIs_body => k_is)
    (case aDChecked_bodies => k_is)
    (case lDChecked_bodies => k_is)
    (case cDChecked_bodies => k_is)
    (case kDChecked_bodies => k_is)
    (case aDCheck_callees => k_is)
    (case lDCheck_callees => k_is)
    (case cDCheck_callees => k_is)
    (case kDCheck_callees => k_is)
    (case aDPlaces => k_is)
    (case lDPlaces => k_is)
    (case cDPlaces => k_is)
    (case kDPlaces => k_is)
    (case aDLine => k_is)
    (case lDLine => k_is)
    (case cDLine => k_is)
    (case kDLine => k_is)
    (case aDRFirst => k_is)
    (case lDRFirst => k_is)
    (case cDRFirst => k_is)
    (case kDRFirst => k_is)
    (case aDReads_first => k_is)
    (case lDReads_first => k_is)
    (case cDReads_first => k_is)
    (case kDReads_first => k_is)
    (case aDSource => k_is)
    (case lDSource => k_is)
    (case cDSource => k_is)
    (case kDSource => k_is)
    (case aDDraw => k_is)
    (case lDDraw => k_is)
    (case cDDraw => k_is)
    (case kDDraw => k_is)
    (case aDName => k_is)
    (case lDName => k_is)
    (case cDName => k_is)
    (case kDName => k_is)
    (case aDNames => k_is)
    (case lDNames => k_is)
    (case cDNames => k_is)
    (case kDNames => k_is)
    (case aDStep => k_is)
    (case lDStep => k_is)
    (case cDStep => k_is)
    (case kDStep => k_is)
    (case aDProgram => k_is)
    (case lDProgram => k_is)
    (case cDProgram => k_is)
    (case kDProgram => k_is)
    (case aDAny_program => k_is)
    (case lDAny_program => k_is)
    (case cDAny_program => k_is)
    (case kDAny_program => k_is)
    (case aDCopy => k_is)
    (case lDCopy => k_is)
    (case cDCopy => k_is)
    (case kDCopy => k_is)
    (case aDSome_program => k_is)
    (case lDSome_program => k_is)
    (case cDSome_program => k_is)
    (case kDSome_program => k_is)
    (case aDLaw => k_is)
    (case lDLaw => k_is)
    (case cDLaw => k_is)
    (case kDLaw => k_is)
    (case aLONGEST_NAME => k_is)
    (case aMOST_STEPS => k_is)
    (case aMOST_PROCEDURES => k_is)
    (case aKINDS => k_is)
    (case lKINDS => k_is)
    (case dKINDS => rfl)
    (case iKINDS => rfl)
    (case cKINDS => rfl)
    (case aCALLING_KINDS => k_is)
    (case lCALLING_KINDS => k_is)
    (case dCALLING_KINDS => rfl)
    (case iCALLING_KINDS => rfl)
    (case cCALLING_KINDS => rfl)
    (case zint => k_is)
    (case zenumerate => k_is)
    (case zrange => k_is)
    (case zlist => k_is)
    (case ztuple => k_is)
    (case zsorted => k_is)
    (case zstr => k_is)
    (case zall => k_is)
    (case zany => k_is)
    (case zisinstance => k_is)
    (case zbool => k_is)
    (case zlen => k_is)
    (case zset => k_is)
