import PyProof.Rows.All
import Wide.All
import OpenK.AllK
import Wide.FinOn
import HandS.Set
import HandS.More
import HandS.SetTxt0
import HandS.SetFor
import PyProof.Rows.SortShellAny
import HandS.ForExc
import HandS.ForMost
import HandS.IsInst
import HandS.SlotsOwn
import PyProof.InstEq
import HandS.Wide
import HandS.Walk
import HandS.TupAny
import HandS.Defaults
import HandS.Codes
import HandS.RaiseMore
import HandS.ExcInit
import HandS.ExcValue
import HandS.ExcIs
import HandS.ExcField
import HandS.MakeKwOnly
import HandS.Style
import PySem.Challenge.RW_midfall_k49_errors_made
set_option Elab.async false
set_option maxRecDepth 100000

/-! Sets of texts built by set(xs), and sorted(..) of them. -/
namespace Mf
open PySem PySem.Spec PyProof.Rows L2 PySem.Froz

section
variable {P : Program} {w : World} {A : Around} {E : Value → Shared → Prop} {s : Shared} {a : Addr} {l : List Str} {k : Str} {u : Tok}

/-- a set of the texts l (each once) at a -/
def TxR (P : Program) (w : World) (h : Heap) (a : Addr) (l : List Str) : Prop :=
  (∃ D : SD, h.get? a = some (sObj "set" D) ∧ TxOk P w D l ∧ Ris D.2.2.place.toList ∧ (w.params.followText "set-order" = true ∨ D.2.2.led = true)) ∧ l.Nodup ∧ l.length < scanBound

theorem TxR.keep {h h' : Heap} (R : TxR P w h a l) (q : ∀ o, h.get? a = some o → h'.get? a = some o) : TxR P w h' a l :=
  let ⟨⟨D, e, z⟩, n, f⟩ := R
  ⟨⟨D, q _ e, z⟩, n, f⟩

theorem add_order (D : SD) (x : Int) (v : Value) (r : Ris D.2.2.place.toList) : Ris (addTx x v D).2.2.place.toList ∧ (addTx x v D).2.2.led = D.2.2.led := by
  obtain ⟨es, ep, t⟩ := D
  have r1 := layNew_ris t es x v r
  have l1 := layNew_led t es x v
  show Ris (tailTx ep (layNew t es x v).1 (if (layNew t es x v).2.1.plain = true then { (layNew t es x v).2.1 with plain := false } else (layNew t es x v).2.1) (layNew t es x v).2.2.1).2.2.place.toList ∧ (tailTx ep (layNew t es x v).1 (if (layNew t es x v).2.1.plain = true then { (layNew t es x v).2.1 with plain := false } else (layNew t es x v).2.1) (layNew t es x v).2.2.1).2.2.led = t.led
  generalize layNew t es x v = Z at r1 l1 ⊢
  obtain ⟨es1, t1, wd, g⟩ := Z
  dsimp only at r1 l1 ⊢
  have r2 : Ris (if t1.plain = true then { t1 with plain := false } else t1).place.toList := by split <;> exact r1
  have l2 : (if t1.plain = true then { t1 with plain := false } else t1).led = t.led := by split <;> exact l1
  generalize (if t1.plain = true then { t1 with plain := false } else t1) = t2 at r2 l2 ⊢
  unfold tailTx
  split
  · exact ⟨relayAll_ris t2 es1 _, (relayAll_led t2 es1 _).trans l2⟩
  · exact ⟨r2, l2⟩

theorem add_dup {Q : Bool → Shared → Prop} {D : SD} (ho : s.heap.get? a = some (sObj "set" D)) (F : TxOk P w D l) (hk : k ∈ l) (hb : l.length < scanBound) (h : Q false s) : wpAny (model P w) A (setAddHashed a (.str k u) (hashStr w k)) Q E s := by
  obtain ⟨es, ep, t⟩ := D
  have dd : (sObj "set" (es, ep, t)).data = .set es ep t := rfl
  have ff : t.fits es.size = true := F.fit
  have el : ElemsOf (strKind P w) es.toList := F.el
  have zz : es.size = l.length := F.sz
  have b0 : es.size < scanBound := by omega
  have key : (strKind P w).is k (.str k u) = true := is_str k u
  unfold setAddHashed setAddHashedIn
  refine wpAny_holding (wpAny_bind (wpAny_setState_of ho dd ff ?_))
  dsimp only
  rw [byScan_of rfl b0 el]
  simp only [↓reduceIte]
  unfold setAddByScan
  refine wpAny_bind ?_
  refine wpAny_bind (wpAny_rule ?_)
  refine wpAny_bind (wpAny_setScan_of (knd := strKind P w) (k := k) key ho dd ff el ?_)
  cases hr : List.findIdx? (fun e => (strKind P w).is k e.2) es.toList with
  | some j => exact wpAny_pure (wpAny_pure h)
  | none =>
    obtain ⟨e, he, q⟩ := (F.mem k).mp hk
    have c := List.findIdx?_eq_none_iff.mp hr e he
    rw [q] at c
    cases c

theorem txr_add {Q : Bool → Shared → Prop} (R : TxR P w s.heap a l) (room : l.length + 1 < scanBound)
    (hQ : ∀ (b : Bool) h' l', Heap.SameBut a s.heap h' → TxR P w h' a l' → (∀ z, z ∈ l' ↔ z ∈ l ∨ z = k) → l'.length ≤ l.length + 1 → Q b { s with heap := h' }) :
    wpAny (model P w) A (setAddHashed a (.str k u) (hashStr w k)) Q E s := by
  obtain ⟨⟨D, ho, F, r, fl⟩, nd, few⟩ := id R
  by_cases hk : k ∈ l
  · refine add_dup ho F hk few ?_
    exact hQ false s.heap l (Heap.SameBut.refl a s.heap) R (fun z => ⟨Or.inl, fun q => q.elim id fun e => e ▸ hk⟩) (Nat.le_succ _)
  · refine add_x ho F hk room ?_
    have o := add_order D (hashStr w k) (.str k u) r
    refine hQ true _ (k :: l) (Heap.SameBut.update s.heap a _) ⟨⟨_, get_upd _ ho rfl, add_ok u F, o.1, fl.imp id fun z => o.2.trans z⟩, List.nodup_cons.mpr ⟨hk, nd⟩, room⟩ (fun z => ?_) (Nat.le_refl _)
    rw [List.mem_cons]
    exact Or.comm

theorem txr_new {h : Heap} (e : h.get? a = some { cls := .type "set", dict := none, data := .set #[] 0 (.fresh 0 0 (!w.params.followText "set-order")) }) : TxR P w h a [] := by
  refine ⟨⟨(#[], 0, .fresh 0 0 (!w.params.followText "set-order")), e, TxOk.nil rfl, List.Pairwise.nil, ?_⟩, List.nodup_nil, by decide⟩
  show _ ∨ (!w.params.followText "set-order") = true
  cases w.params.followText "set-order"
  · exact .inr rfl
  · exact .inl rfl

/-- set.update's turns over texts -/
theorem loop_txt {I : Addr} {fp wr : List Addr} {G : Array GenState → Array GenState → Prop} {n : Nat} {Pv : Nat → Value → Prop} {St : Nat → Shared → Prop} {R : Result → Shared → Prop}
    (W : WalksS P w A.in1 I fp wr G n Pv St) (S : Addr) (nS : S ∉ fp) (xs : List Str) (hn : n = xs.length) (room : n + 1 < scanBound) (val : ∀ i v, Pv i v → ∃ x t, xs[i]? = some x ∧ v = .str x t) :
    ∀ (k i : Nat) (s : Shared), n - i = k → i ≤ n → St i s → (∃ l, TxR P w s.heap S l ∧ (∀ z, z ∈ l ↔ z ∈ xs.take i) ∧ l.length ≤ i) →
      (∀ s' l, Moved (S :: wr) G s s' → TxR P w s'.heap S l → (∀ z, z ∈ l ↔ z ∈ xs) → R (.ok (.ret .none)) s') →
      codeAny (model P w) A (.builtin "set.update.loop" ⟨[.ref S, .ref I], []⟩) R s := by
  have sw : S ∉ wr := fun q => nS (W.sub _ q)
  have sub : ∀ b ∈ wr, b ∈ S :: wr := fun b q => List.mem_cons_of_mem _ q
  intro k
  induction k with
  | zero =>
    rintro i s hk hi hst ⟨l, hS, hm, _⟩ hR
    obtain rfl : i = n := by omega
    refine codeAny_builtin F.entry_set_update_loop ?_
    rw [Around.under_plainId F.plain_set_update_loop _]
    show wpAny _ A.in1 (pyNext (.ref I) >>= _) _ _ s
    refine wpAny_bind (W.done s _ _ hst fun s' mv => ?_)
    show wpAny _ A.in1 (ret Value.none) _ _ s'
    refine wpAny_pure (hR s' l (mv.mono sub) (hS.keep fun o e => mv.heap S o sw e) fun z => ?_)
    rw [hm z, hn, List.take_length]
  | succ k ih =>
    rintro i s hk hi hst ⟨l, hS, hm, hle⟩ hR
    have lt : i < n := by omega
    refine codeAny_builtin F.entry_set_update_loop ?_
    rw [Around.under_plainId F.plain_set_update_loop _]
    show wpAny _ A.in1 (pyNext (.ref I) >>= _) _ _ s
    refine wpAny_bind (W.item i s _ _ lt hst fun v s' pv' hst' mv => ?_)
    obtain ⟨x, t, ex, rfl⟩ := val i v pv'
    have hS' : TxR P w s'.heap S l := hS.keep fun o e => mv.heap S o sw e
    show wpAny _ A.in1 (holding [Value.str x t] (setAdd S (.str x t)) >>= _) _ _ s'
    refine wpAny_bind (wpAny_holding ?_)
    unfold setAdd
    refine wpAny_holding (wpAny_bind ((strKind P w).pyHash (is_str x t) ?_))
    refine txr_add (s := { s' with toks := s'.toks + 1 }) hS' (by omega) fun b h' l' same R' m' le' => ?_
    have tk : xs.take (i + 1) = xs.take i ++ [x] := by rw [List.take_add_one, ex]; rfl
    refine wpAny_pure ⟨plainId_quiet F.plain_set_update_loop _, ih (i + 1) _ (by omega) lt (W.frame _ s' _ _ hst' (Nat.le_add_right _ _) fun b hb o e => ?_) ⟨l', R', fun z => ?_, by omega⟩ fun s'' l2 mv2 R2 m2 => ?_⟩
    · rw [same.2 b (fun q : b = S => nS (q ▸ hb))]
      exact e
    · rw [m' z, hm z, tk, List.mem_append, List.mem_singleton]
    · refine hR s'' l2 (Moved.trans W.gtrans ((mv.mono sub).then_heap (Nat.le_add_right _ _) fun b o hb e => ?_) mv2) R2 m2
      rw [same.2 b (fun q : b = S => hb (q ▸ List.mem_cons_self))]
      exact e

abbrev set0 (w : World) : Obj := { cls := .type "set", dict := none, data := .set #[] 0 (.fresh 0 0 (!w.params.followText "set-order")) }

/-- how a builtin's tree ends, as a result R -/
def FinX (P : Program) (w : World) (B : Around) (R : Result → Shared → Prop) : Fin → Shared → Prop
  | .done f, s' => R (.ok f) s'
  | .again c', s' => c'.quiet = true ∧ codeAny (model P w) B c' R s'

/-- the set at S is filled from what stands at c -/
def Fills (P : Program) (w : World) (s : Shared) (c : Addr) (xs : List Str) : Prop :=
  ∀ (B : Around) (R : Result → Shared → Prop), B.handled = none →
    (∀ (h' : Heap) (tk : Nat) (l : List Str), TxR P w h' s.heap.objs.size l → (∀ z, z ∈ l ↔ z ∈ xs) → (∀ b o, s.heap.get? b = some o → h'.get? b = some o) → R (.ok (.ret .none)) { s with heap := h', toks := tk }) →
    wpAny (model P w) B.in1 (Builtin.«set.__init__» ⟨[.ref s.heap.objs.size, .ref c], []⟩) (FinX P w B R) (fun e s' => R (.error e) s') { s with heap := s.heap.push (set0 w) }

theorem strs_val {us : List Value} {xs : List Str} (h : StrsAre us xs) : us.length = xs.length ∧ ∀ (i : Nat) (v : Value), us[i]? = some v → ∃ x t, xs[i]? = some x ∧ v = .str x t := by
  induction h with
  | nil => exact ⟨rfl, fun i v q => by simp at q⟩
  | cons x t h ih =>
    refine ⟨congrArg (· + 1) ih.1, fun i v q => ?_⟩
    cases i with
    | zero => exact ⟨x, t, rfl, (Option.some.inj q).symm⟩
    | succ i => exact ih.2 i v q

section
variable {items : Array Value} {xs : List Str} {c : Addr}
theorem fill_end {I : Addr} {R : Result → Shared → Prop} (hI : I = s.heap.objs.size + 1)
    (hR : ∀ (h' : Heap) (tk : Nat) (l : List Str), TxR P w h' s.heap.objs.size l → (∀ z, z ∈ l ↔ z ∈ xs) → (∀ b o, s.heap.get? b = some o → h'.get? b = some o) → R (.ok (.ret .none)) { s with heap := h', toks := tk })
    {h0 : Heap} (k0 : ∀ b o, s.heap.get? b = some o → h0.get? b = some o) {s' : Shared} {l : List Str} (mv : Moved [s.heap.objs.size, I] (fun a b => b = a) { s with heap := h0 } s') (T : TxR P w s'.heap s.heap.objs.size l) (m : ∀ z, z ∈ l ↔ z ∈ xs) : R (.ok (.ret .none)) s' := by
  obtain ⟨h', g2, d2, t2, o2⟩ := s'
  have e1 : g2 = s.gens := mv.gens
  have e2 : d2 = s.drawn := mv.drawn
  have e3 : o2 = s.os := mv.os
  subst e1 e2 e3
  refine hR h' t2 l T m fun b o e => mv.heap b o (fun z => ?_) (k0 b o e)
  have lt : b < s.heap.objs.size := Heap.lt_size e
  rcases List.mem_cons.mp z with z | z
  · exact absurd z (Nat.ne_of_lt lt)
  · exact absurd ((List.mem_singleton.mp z).trans hI) (Nat.ne_of_lt (Nat.lt_succ_of_lt lt))

set_option maxHeartbeats 3200000 in
theorem fills_list (hl : s.heap.IsList c items) (hit : StrsAre items.toList xs) (room : xs.length + 1 < scanBound) : Fills P w s c xs := by
  intro B R hh hR
  obtain ⟨len, val⟩ := strs_val hit
  rw [Array.length_toList] at len
  obtain ⟨⟨k, dd, da, sl⟩, hob, hk, n, hd⟩ := hl
  simp only at hk hd
  subst hk hd
  have hob1 : (s.heap.push (set0 w)).get? c = some { cls := .type "list", dict := dd, data := .seq items n, slots := sl } := Heap.get?_push_of_some _ hob
  have f1 := F.sub_list_set
  have f2 := F.sub_list_frozenset
  have f3 : (Value.type "list" == Value.type "dict") = false := by decide
  have isl : (s.heap.push (set0 w)).IsList c items := ⟨_, hob1, rfl, n, rfl⟩
  unfold Builtin.«set.__init__» noKeywords Builtin.Frozenset.updateFrom
  generalize gq : pyIter = PI
  wp_walk
  subst gq
  refine wpAny_pyIter_list isl ?_
  refine wpAny_bind (wpAny_runValue ?_)
  have h3 : B.in1.in1.handled = none := by simp [hh]
  have lt : c < s.heap.objs.size := Heap.lt_size hob
  have z1 : (s.heap.push (set0 w)).objs.size = s.heap.objs.size + 1 := Heap.size_push ..
  have nI : c ≠ (s.heap.push (set0 w)).objs.size := by rw [z1]; exact Nat.ne_of_lt (Nat.lt_succ_of_lt lt)
  have nS : s.heap.objs.size ∉ [(s.heap.push (set0 w)).objs.size, c] := by
    rw [z1]
    simp only [List.mem_cons, List.not_mem_nil, or_false, not_or]
    exact ⟨Nat.ne_of_lt (Nat.lt_succ_self _), Nat.ne_of_gt lt⟩
  have get0 : (s.heap.push (set0 w)).get? s.heap.objs.size = some (set0 w) := Heap.get?_push_size _ rfl
  refine loop_txt ((Walks.list h3 _ c nI items).toS) s.heap.objs.size nS xs len (by omega) (fun i v q => val i v (by rw [Array.getElem?_toList]; exact q)) (items.size - 0) 0 _ (by omega) (Nat.zero_le _)
    ⟨⟨_, Heap.get?_push_size _ rfl, rfl, rfl⟩, isl.push _⟩ ⟨[], txr_new (Heap.get?_push_of_some _ get0), fun z => by simp, Nat.le_refl 0⟩ fun s' l mv T m => ?_
  have q := fill_end (R := R) z1 hR (fun b o e => Heap.get?_push_of_some _ (Heap.get?_push_of_some _ e)) mv T m
  show wpAny _ _ _ _ _ _
  refine wpAny_pure ?_
  show wpAny _ _ (ret Value.none) _ _ _
  exact wpAny_pure q
set_option maxHeartbeats 3200000 in
theorem fills_tuple (hl : s.heap.IsTuple c items) (hit : StrsAre items.toList xs) (room : xs.length + 1 < scanBound) : Fills P w s c xs := by
  intro B R hh hR
  obtain ⟨len, val⟩ := strs_val hit
  rw [Array.length_toList] at len
  obtain ⟨⟨k, dd, da, sl⟩, hob, hk, n, hd⟩ := hl
  simp only at hk hd
  subst hk hd
  have hob1 : (s.heap.push (set0 w)).get? c = some { cls := .type "tuple", dict := dd, data := .seq items n, slots := sl } := Heap.get?_push_of_some _ hob
  have f1 := F.sub_tuple_set
  have f2 := F.sub_tuple_frozenset
  have f3 : (Value.type "tuple" == Value.type "dict") = false := by decide
  have isl : (s.heap.push (set0 w)).IsTuple c items := ⟨_, hob1, rfl, n, rfl⟩
  unfold Builtin.«set.__init__» noKeywords Builtin.Frozenset.updateFrom
  generalize gq : pyIter = PI
  wp_walk
  subst gq
  refine wpAny_pyIter_tuple isl ?_
  refine wpAny_bind (wpAny_runValue ?_)
  have h3 : B.in1.in1.handled = none := by simp [hh]
  have lt : c < s.heap.objs.size := Heap.lt_size hob
  have z1 : (s.heap.push (set0 w)).objs.size = s.heap.objs.size + 1 := Heap.size_push ..
  have nI : c ≠ (s.heap.push (set0 w)).objs.size := by rw [z1]; exact Nat.ne_of_lt (Nat.lt_succ_of_lt lt)
  have nS : s.heap.objs.size ∉ [(s.heap.push (set0 w)).objs.size, c] := by
    rw [z1]
    simp only [List.mem_cons, List.not_mem_nil, or_false, not_or]
    exact ⟨Nat.ne_of_lt (Nat.lt_succ_self _), Nat.ne_of_gt lt⟩
  have get0 : (s.heap.push (set0 w)).get? s.heap.objs.size = some (set0 w) := Heap.get?_push_size _ rfl
  refine loop_txt ((Walks.tuple h3 _ c nI items).toS) s.heap.objs.size nS xs len (by omega) (fun i v q => val i v (by rw [Array.getElem?_toList]; exact q)) (items.size - 0) 0 _ (by omega) (Nat.zero_le _)
    ⟨⟨_, Heap.get?_push_size _ rfl, rfl, rfl⟩, isl.push _⟩ ⟨[], txr_new (Heap.get?_push_of_some _ get0), fun z => by simp, Nat.le_refl 0⟩ fun s' l mv T m => ?_
  have q := fill_end (R := R) z1 hR (fun b o e => Heap.get?_push_of_some _ (Heap.get?_push_of_some _ e)) mv T m
  show wpAny _ _ _ _ _ _
  refine wpAny_pure ?_
  show wpAny _ _ (ret Value.none) _ _ _
  exact wpAny_pure q

set_option maxHeartbeats 3200000 in
/-- set(xs), xs a list or tuple of texts -/
theorem set_call {Q : Value → Shared → Prop} (hh : A.handled = none) (fill : Fills P w s c xs)
    (h : ∀ (h' : Heap) (tk : Nat) (l : List Str), TxR P w h' s.heap.objs.size l → (∀ z, z ∈ l ↔ z ∈ xs) → (∀ b o, s.heap.get? b = some o → h'.get? b = some o) → Q (.ref s.heap.objs.size) { s with heap := h', toks := tk }) :
    wpAny (model P w) A (call (.type "set") [.ref c]) Q E s := by
  obtain ⟨c0, tl, hmro⟩ := F.called_set.mro
  have hmade := F.called_set.made
  have hsub := F.called_set.sub
  refine wpAny_call (codeAny_of_tree ?_)
  show wpAny _ _ (callAny (.type "set") _) _ _ _
  refine wpAny_pure ⟨Code.quiet_builtin _ (by decide +kernel), codeAny_builtin F.entry_type_call ?_⟩
  rw [Around.under_plain (weight_type_call_type "set" [.ref c] []) rfl]
  have h1 := F.called_set.notType
  have h2 := F.called_set.canCreate
  have h3 := F.typeCall_set_1 (.ref c)
  repeat (any_goals (first | assumption | wp_step))
  refine codeAny_mono (code_set_led1 (.ref c) (E := E) (Q₁ := fun obj s₁ => obj = .ref s.heap.objs.size ∧ s₁ = { s with heap := s.heap.push (set0 w) }) ⟨rfl, rfl⟩) fun r s1 hr => ?_
  rcases r with e | fl
  · exact hr
  rcases fl with _ | _ | _ | obj
  all_goals try exact hr.elim
  obtain ⟨rfl, rfl⟩ := hr
  have hS : (s.heap.push (set0 w)).get? s.heap.objs.size = some (set0 w) := Heap.get?_push_size _ rfl
  have tS : Shared.TypeIs { s with heap := s.heap.push (set0 w) } (.ref s.heap.objs.size) "set" := ⟨_, hS, rfl⟩
  have i1 := F.called_set.init.lookup
  have i2 := F.called_set.init.bind (.ref s.heap.objs.size)
  repeat (any_goals (first | assumption | wp_step))
  refine codeAny_mono (codeAny_call_builtin (R := wants (fun r s₂ => r = .none ∧ ∃ h' tk l, s₂ = { s with heap := h', toks := tk } ∧ TxR P w h' s.heap.objs.size l ∧ (∀ z, z ∈ l ↔ z ∈ xs) ∧ (∀ b o, s.heap.get? b = some o → h'.get? b = some o)) E)
    F.called_set.init.plain F.entry_set_init (check_set_init_1 tS ?_)) fun r2 s2 h2 => ?_
  · refine wpAny_mono (fill A.in1 (wants (fun r s₂ => r = .none ∧ ∃ h' tk l, s₂ = { s with heap := h', toks := tk } ∧ TxR P w h' s.heap.objs.size l ∧ (∀ z, z ∈ l ↔ z ∈ xs) ∧ (∀ b o, s.heap.get? b = some o → h'.get? b = some o)) E) (by simp [hh])
      fun h' tk l T m k => ⟨rfl, h', tk, l, rfl, T, m, k⟩) (fun fin s' q => ?_) fun _ _ q => q
    cases fin <;> exact q
  · rcases r2 with e | fl
    · exact h2
    rcases fl with _ | _ | _ | obj
    all_goals try exact h2.elim
    obtain ⟨rfl, h', tk, l, rfl, R, m, k⟩ := h2
    repeat (any_goals (first | assumption | wp_step))
    exact h _ _ _ R m k

theorem strs_get {l : List Str} : ∀ {vs : List Value}, (∀ v ∈ vs, ∃ x t, v = .str x t) → ∃ ys, StrsAre vs ys
  | [], _ => ⟨[], .nil⟩
  | v :: vs, h => by
    obtain ⟨x, t, rfl⟩ := h v List.mem_cons_self
    obtain ⟨ys, q⟩ := strs_get (l := l) fun u hu => h u (List.mem_cons_of_mem _ hu)
    exact ⟨x :: ys, .cons x t q⟩
theorem strs_mem {x : Str} : ∀ {vs : List Value} {ys : List Str}, StrsAre vs ys → (x ∈ ys ↔ ∃ t, Value.str x t ∈ vs)
  | _, _, .nil => by simp
  | _, _, .cons y t h => by
    rw [List.mem_cons, strs_mem h]
    constructor
    · rintro (rfl | ⟨u, q⟩)
      · exact ⟨t, List.mem_cons_self⟩
      · exact ⟨u, List.mem_cons_of_mem _ q⟩
    · rintro ⟨u, q⟩
      rcases List.mem_cons.mp q with e | q
      · injection e with e _
        exact .inl e
      · exact .inr ⟨u, q⟩

/-- sorted(a set of texts) -/
theorem sorted_txr {a : Addr} {l : List Str} {Q : Value → Shared → Prop} (T : TxR P w s.heap a l) (hh : A.handled = none)
    (hQ : ∀ s' p (out : Array Value) (c : Nat) (ys : List Str), (∀ b o, s.heap.get? b = some o → s'.heap.get? b = some o) → s'.gens = s.gens → s'.os = s.os → s.heap.objs.size ≤ p →
      s'.heap.get? p = some (seqObj "list" out c) → StrsAre out.toList ys → sortedS ys = true → (∀ z, z ∈ ys ↔ z ∈ l) → ys.length = l.length → Q (.ref p) s') :
    wpAny (model P w) A (call (.builtin "sorted") [.ref a]) Q E s := by
  obtain ⟨⟨⟨es, ep, t⟩, ho, F, r, fl⟩, nd, few⟩ := T
  have zz : es.size = l.length := F.sz
  refine Calls.call_function_entry kind_sorted plain_sorted entry_sorted (args_sorted1 _) ?_
  unfold Builtin.«sorted»
  refine wpAny_bind (m := checkCount "sorted" 1 1 _) (wpAny_pure ?_)
  refine wpAny_bind (collect_set (A := A.in1) hh ⟨_, ho, rfl, rfl⟩ F.fit (by rw [zz]; exact few) r fl fun s1 vs k1 hz g1 o1 pm => ?_)
  have all : ∀ v ∈ vs, ∃ x t, v = .str x t := fun v hv => by
    obtain ⟨e, he, rfl⟩ := List.mem_map.mp (pm.mem_iff.mp hv)
    obtain ⟨⟨x, hx, _⟩, _⟩ := F.el e he
    obtain ⟨t, q⟩ := Value.isStrOf_shape (x := x) (v := e.2) hx
    exact ⟨x, t, q⟩
  obtain ⟨ws, hS⟩ := strs_get (l := l) all
  have len := (strs_val hS).1
  have lvs : vs.length = l.length := by rw [pm.length_eq, List.length_map, Array.length_toList]; exact zz
  have mem : ∀ z, z ∈ ws ↔ z ∈ l := fun z => by
    rw [strs_mem hS, F.mem z]
    constructor
    · rintro ⟨t, q⟩
      obtain ⟨e, he, e2⟩ := List.mem_map.mp (pm.mem_iff.mp q)
      exact ⟨e, he, by rw [e2]; exact is_str z t⟩
    · rintro ⟨e, he, q⟩
      obtain ⟨t, e2⟩ := Value.isStrOf_shape (x := z) (v := e.2) q
      exact ⟨t, pm.mem_iff.mpr (List.mem_map.mpr ⟨e, he, e2⟩)⟩
  have few2 : vs.length ≤ sizeLine := by rw [lvs]; exact fits_of_scanBound few
  refine wpAny_bind (wpAny_newList ?_ few2)
  have hoL : (s1.heap.push (seqObj "list" vs.toArray 0)).get? s1.heap.objs.size = some (seqObj "list" vs.toArray 0) := Heap.get?_push_size _ rfl
  refine wpAny_bind (wpAny_holding (wpAny_call_entry slot_list_sort ⟨_, hoL, rfl⟩ entry_list_sort (list_sort_treeKAny strKind_oneLt hoL hS.keysOf (fun v₁ v₂ rest e => keyKind_strs (by rw [← e]; exact hS)) few2 fun st' hp hs => ⟨_, rfl, ?_⟩) (args_list_sort _)))
  obtain ⟨ys, g1', g2, g3⟩ := sorted_out_str hS hp hs
  obtain ⟨c, hc⟩ := sortedHeap_at (vs := vs) (out := (arrOf st').map (·.2)) hoL
  refine wpAny_pure ⟨_, rfl, hQ _ s1.heap.objs.size _ c ys (fun b u e => ?_) g1 o1 hz hc g1' g3 (fun z => by rw [g2.mem_iff, mem z]) (by rw [g2.length_eq, ← len, lvs])⟩
  have q := k1 b u e
  have lt := Heap.lt_size q
  show (sortedHeap (s1.heap.push (seqObj "list" vs.toArray 0)) s1.heap.objs.size vs _).get? b = some u
  rw [sortedHeap_old (Nat.ne_of_lt lt) (by rw [size_push']; exact Nat.lt_succ_of_lt lt)]
  exact Heap.get?_push_of_some _ q
end
end

/-! ### over the hand layer -/
section
variable {X : Cx}
def TxO (P : Program) (w : World) (a : Addr) (l : List Str) : HO := .ext fun h => TxR P w h a l
theorem txo_new {P : Program} {w : World} {H : Hp} {h : Heap} {a : Addr} {l : List Str} (R : TxR P w h a l) : ObjOk P w H h a (TxO P w a l) :=
  ⟨R, let ⟨⟨_, e, _⟩, _⟩ := R; ⟨_, e⟩, fun _ _ q k => q.keep k⟩

/-- set(xs) of a list or tuple of texts -/
def rSetS (K : PySem.W.Frag) (P : Program) (w : World) : List V → Hp → VK → Prop := fun vs H Q => ∃ (c : Addr) (xs : List Str), vs = [.ref c] ∧ (SqL K H c (xs.map V.str) ∨ SqT K H c (xs.map V.str)) ∧ xs.length < 4000 ∧
  ∀ (p : Addr) (l : List Str), H p = none → l.Nodup → (∀ z, z ∈ l ↔ z ∈ xs) → Q (.ref p) (upd H p (TxO P w p l))
theorem cr_setS (hc : X.calm = true) : CallR X (.type "set") (rSetS X.K X.prog X.w) := by
  intro pins s σ H vs us Q I r h
  obtain ⟨c, xs, rfl, hs, few, q⟩ := h
  rw [Vals.ref1 r]
  have hn : H s.heap.objs.size = none := I.hok.fresh (Nat.le_refl _)
  have fill : Fills X.prog X.w s c xs := by
    rcases hs with hs | hs
    · obtain ⟨its, rv, pl, hz⟩ := I.list hs
      exact fills_list pl.isList (by simpa using rv.strs) (by unfold scanBound; omega)
    · obtain ⟨its, rv, pl, hz⟩ := I.tuple hs
      exact fills_tuple pl (by simpa using rv.strs) (by unfold scanBound; omega)
  refine set_call (I.ok.hd hc) fill fun h' tk l T m k => ?_
  exact ⟨.ref s.heap.objs.size, _, I.laid (t' := tk) k (Nat.le_refl _) (txo_new T), rfl, q _ l hn T.2.1 m⟩

/-- sorted(a set of texts) -/
def rSortedX (P : Program) (w : World) : List V → Hp → VK → Prop := fun vs H Q => ∃ (a : Addr) (l : List Str), vs = [.ref a] ∧ H a = some (TxO P w a l) ∧
  ∀ (ys : List Str) (p : Addr), sortedS ys = true → (∀ z, z ∈ ys ↔ z ∈ l) → ys.length = l.length → H p = none → Q (.ref p) (upd H p (.lst (ys.map V.str)))
theorem cr_sortedX (hc : X.calm = true) : CallR X (.builtin "sorted") (rSortedX X.prog X.w) := by
  intro pins s σ H vs us Q I r h
  obtain ⟨a, l, rfl, ha, q⟩ := h
  have T : TxR X.prog X.w s.heap a l := (I.hok a _ ha).1
  rw [Vals.ref1 r]
  refine sorted_txr T (I.ok.hd hc) fun s' p out c ys k g o hp hg hS so m len => ?_
  have hn : H p = none := I.hok.fresh hp
  have few : (ys.map V.str).length ≤ sizeLine := by rw [List.length_map, len]; exact fits_of_scanBound T.2.2
  have J : Inv X pins σ (upd H p (.lst (ys.map V.str))) { s with heap := s'.heap, gens := s'.gens, drawn := s'.drawn, toks := s'.toks } :=
    I.call (ch := []) (Un.laid k hp hn) (I.hok.laid k hp ⟨few, out.toList, c, vals_of_strs hS, hg⟩) (by rw [g]; exact I.bare) fun _ z => nomatch z
  have e : s' = { s with heap := s'.heap, gens := s'.gens, drawn := s'.drawn, toks := s'.toks } := by
    rcases s' with ⟨_, _, _, _, _⟩
    cases o
    rfl
  rw [e]
  exact ⟨.ref p, _, J, rfl, q ys p so m len hn⟩
end
end Mf
/-! Operators of own classes (dunder methods that are plain defs), over the hand layer. -/
namespace Mf
open PySem PySem.Spec PyProof.Rows L2

section
variable {X : Cx} {CX : CXT} {k : Nat} {f C a dx : Addr} {fd : FuncData} {ps : List Str} {sp : Sp} {E : XK} {ds : List Value} {dvs : List V} {pins : List (Addr × Obj)} {σ : L2.St} {H : Hp} {s : Shared} {fs : List (Str × V)}

theorem Inv.inst (I : Inv X pins σ H s) (e : H a = some (.ins C dx fs)) : ∃ od, PySem.W.InstAt s.heap a (PySem.W.instObj C dx) C (some od) :=
  let ⟨_, O, _⟩ := ins_get I.hok e
  let ⟨od, i, _⟩ := O.look
  ⟨od, i⟩

/-- a def runs, from anywhere under the body X -/
theorem run_in {A : Around} {Q : VK} {us : List Value} {vs : List V} (F : FnOk X.prog X.w X.K X.mg X.base CX k f fd ps sp) (hr : Room k A) (hb : Binds X.K fd ps ds) (hd : Vals dvs ds) (hx : Passes CX X E)
    (e0 : Env0 X.prog X.w X.K X.mg X.base A X.stack s H) (I : Inv X pins σ H s) (r : Vals vs us) (h : sp (vs ++ dvs) H Q E) : wpAny (model X.prog X.w) A (call (.ref f) us) (EP X pins σ Q) X.xe s := by
  have r2 : Vals (vs ++ dvs) (us ++ ds) := r.append hd
  have hl : (us ++ ds).length = ps.length := by rw [← r2.length]; exact F.len _ _ _ _ h
  refine wpAny_call (codeAny_mono (F.run A X.stack s H ⟨us, []⟩ (us ++ ds) (vs ++ dvs) Q E hr e0 (hb s us I.kIn hl) r2 h) fun r s' hq => ?_)
  rcases r with e | fl
  · exact hx pins σ H s e s' I hq
  · rcases fl with _ | _ | _ | u
    all_goals first | exact False.elim hq | exact I.after hq

/-- what type the other operand has: it isn't below C -/
def NotBelow (K : PySem.W.Frag) (C : Addr) (y : V) (H : Hp) : Prop := ∃ t, TyX K H y t ∧ PySem.W.notFirst K C t = true

/-- x op y by the class's own def -/
def rCmpO (K : PySem.W.Frag) (C : Addr) (sp : Sp) (E : XK) : R2 := fun x y H Q => ∃ a dx fs, x = .ref a ∧ H a = some (.ins C dx fs) ∧ NotBelow K C y H ∧ sp [x, y] H Q E
theorem op_cmpO {op : CmpOp} (m : Meth X.K C (cmpInfo op).2.1 f) (F : FnOk X.prog X.w X.K X.mg X.base CX k f fd ps sp) (hr : Room k X.A) (hb : Binds X.K fd ps []) (hx : Passes CX X E)
    (hop : ∀ a b, compareOp op a b = richCompare op a b := by exact fun _ _ => rfl) : OpR X (compareOp op) (rCmpO X.K C sp E) := by
  intro pins s σ H x y v u Q I rx ry h
  obtain ⟨a, dx, fs, rfl, ha, ⟨t, ty, nb⟩, q⟩ := h
  cases (show v = Value.ref a from rx)
  obtain ⟨od, J⟩ := Inv.inst I ha
  obtain ⟨mm, hF⟩ := I.fr
  obtain ⟨Pk, Z, p, _⟩ := kit_of I ry ty
  rw [hop]
  refine PySem.W.cmp_K (op := op) (tb := t) hr.units0 hF I.ok.mod.kin J (Z.ty _ _ I.kIn p) nb m.at_ m.fn ?_
  refine wpAny_mono (run_in (us := [.ref a, u]) (vs := [.ref a, y]) F hr hb .nil hx I.env0 I (.cons rfl (.cons ry .nil)) (by rw [List.append_nil]; exact q)) (fun z s' e => ?_) fun _ _ e => e
  obtain ⟨z', H', I', rz, qz⟩ := e
  exact SlX.cmpback rz ⟨z', H', I', rz, qz⟩

/-- x != y by the class's own __eq__ -/
def rNeO (K : PySem.W.Frag) (C : Addr) (sp : Sp) (E : XK) : R2 := fun x y H Q => ∃ a dx fs, x = .ref a ∧ H a = some (.ins C dx fs) ∧ NotBelow K C y H ∧ sp [x, y] H (fun v H' => ∃ b, v = .bl b ∧ Q (.bl (!b)) H') E
theorem op_neO (m : Meth X.K C "__eq__" f) (ne : PySem.W.findIn X.K (.ref C) "__ne__" = some (some (.builtin "object.__ne__"))) (mo : PySem.W.mroIn X.K C (.type "object") = some true)
    (F : FnOk X.prog X.w X.K X.mg X.base CX k f fd ps sp) (hr : Room (k + 1) X.A) (hb : Binds X.K fd ps []) (hx : Passes CX X E) : OpR X (compareOp .NotEq) (rNeO X.K C sp E) := by
  intro pins s σ H x y v u Q I rx ry h
  obtain ⟨a, dx, fs, rfl, ha, ⟨t, ty, nb⟩, q⟩ := h
  cases (show v = Value.ref a from rx)
  obtain ⟨od, J⟩ := Inv.inst I ha
  obtain ⟨Pk, Z, p, _⟩ := kit_of I ry ty
  have Lb : PySem.W.Looks (model X.prog X.w) s.heap (typeOf u) t := Z.ty _ _ I.kIn p
  have core : wpAny (model X.prog X.w) X.A (call (.builtin "object.__ne__") [.ref a, u]) (EP X pins σ Q) X.xe s := by
    refine wpAny_call (codeAny_call_builtin PySem.F.cmp_object.ne.plain PySem.F.cmpEntry_ne (PySem.W.check_slot (i := "object.__ne__") (owner := "object") (n := "__ne__") PySem.F.cmpKind_ne PySem.F.cmpSplit_ne (J.type.andThen (PySem.W.looks_mroIn I.kIn mo)) (PySem.F.cmpArgs_ne _ _) ?_))
    unfold Builtin.«object.__ne__»
    refine wpAny_bind (m := slotArgs "__ne__" 1 _) (wpAny_pure ?_)
    refine wpAny_bind (m := cRoomFor _ _) (wpAny_cRoomFor (hr.in1).units0 ?_)
    refine wpAny_bind (m := callSpecialIfBound? (.ref a) (Str.ofString "__eq__") _) (PySem.W.ifBound_K I.kIn J m.at_ m.fn ?_)
    refine wpAny_mono (run_in (us := [.ref a, u]) (vs := [.ref a, y]) F hr.in1 hb .nil hx I.env0.in1 I (.cons rfl (.cons ry .nil)) (by rw [List.append_nil]; exact q)) (fun z s' e => ?_) fun _ _ e => e
    obtain ⟨z', H', I', rz, b, rfl, qz⟩ := e
    cases (show z = Value.bool b from rz)
    exact wpAny_bind (wpAny_truthy_bool (wpAny_pure ⟨.bl (!b), H', I', rfl, qz⟩))
  have one : wpAny (model X.prog X.w) X.A (tryCompare (.ref a) "__ne__" u) (fun r s' => ∃ v, r = some v ∧ EP X pins σ Q v s') X.xe s := by
    unfold tryCompare
    refine wpAny_bind ?_
    simp only [callSpecialIfBound?, bindSpecialIfBound?]
    refine wpAny_holding (wpAny_bind (wpAny_bind (wpAny_bind (J.type.here ((PySem.W.looks_findIn I.kIn ne).here ?_)))))
    simp only [PySem.F.cmp_object.ne.bind]
    have fin : wpAny (model X.prog X.w) X.A (call (.builtin "object.__ne__") ([.ref a] ++ [u]) >>= fun v => pure (some v)) (fun a_1 s' => wpAny (model X.prog X.w) X.A (match a_1 with
        | some Value.notImplemented | none => pure none
        | some v => pure (some v)) (fun r s' => ∃ v, r = some v ∧ EP X pins σ Q v s') X.xe s') X.xe s := by
      refine wpAny_bind (wpAny_mono core (fun z s' e => wpAny_pure ?_) fun _ _ e => e)
      have e2 := e
      obtain ⟨z', H', I', rz, qz⟩ := e2
      have nn : PySem.W.CmpBack (fun z s' => EP X pins σ Q z s') z s' := SlX.cmpback rz e
      cases z <;> first | exact nn.elim | exact wpAny_pure ⟨_, rfl, nn⟩
    refine wpAny_bind (wpAny_askSetting (wpAny_ite ?_))
    split
    · exact wpAny_bind (wpAny_pure (wpAny_pure fin))
    · exact wpAny_tryCatch (wpAny_bind (wpAny_pure (wpAny_pure fin)))
  show wpAny _ _ (richCompare .NotEq (.ref a) u) _ _ s
  unfold richCompare
  simp only [oneThing_ref]
  refine wpAny_holding (wpAny_bind (wpAny_cRoomFor hr.units0 ?_))
  refine wpAny_bind (J.type.here (wpAny_bind (Lb.here ?_)))
  split
  · rename_i h1
    have e : PySem.W.subIn X.K t (.ref C) = some false := by
      rcases Bool.or_eq_true_iff.mp nb with e | e
      · rw [beq_iff_eq.mp e] at h1; simp at h1
      · exact beq_iff_eq.mp e
    refine wpAny_bind ((PySem.W.looks_subIn I.kIn e).here ?_)
    simp only [Bool.false_eq_true, if_false]
    refine wpAny_bind (wpAny_mono one (fun r s' z => ?_) fun _ _ e => e)
    obtain ⟨v, rfl, hq⟩ := z
    exact wpAny_pure hq
  · refine wpAny_bind (wpAny_pure ?_)
    simp only [Bool.false_eq_true, if_false]
    refine wpAny_bind (wpAny_mono one (fun r s' z => ?_) fun _ _ e => e)
    obtain ⟨v, rfl, hq⟩ := z
    exact wpAny_pure hq

/-- x op y, both of the class -/
def rBinO (C : Addr) (sp : Sp) (E : XK) : R2 := fun x y H Q => ∃ a dx fs b dy gs, x = .ref a ∧ y = .ref b ∧ H a = some (.ins C dx fs) ∧ H b = some (.ins C dy gs) ∧ sp [x, y] H Q E
theorem op_binO {op : Operator} (m : Meth X.K C (PySem.dunder op.info.2) f) (sf : PySem.W.selfFirst X.K C = true) (F : FnOk X.prog X.w X.K X.mg X.base CX k f fd ps sp) (hr : Room k X.A) (hb : Binds X.K fd ps []) (hx : Passes CX X E) :
    OpR X (binaryOp op) (rBinO C sp E) := by
  intro pins s σ H x y v u Q I rx ry h
  obtain ⟨a, dx, fs, b, dy, gs, rfl, rfl, ha, hb', q⟩ := h
  cases (show v = Value.ref a from rx)
  cases (show u = Value.ref b from ry)
  obtain ⟨od, J⟩ := Inv.inst I ha
  obtain ⟨oe, J'⟩ := Inv.inst I hb'
  obtain ⟨mm, hF⟩ := I.fr
  refine PySem.W.binop_K hF I.ok.mod.kin J J'.type sf m.at_ m.fn ?_
  refine wpAny_mono (run_in (us := [.ref a, .ref b]) (vs := [.ref a, .ref b]) F hr hb .nil hx I.env0 I (.cons rfl (.cons rfl .nil)) (by rw [List.append_nil]; exact q)) (fun z s' e => ?_) fun _ _ e => e
  obtain ⟨z', H', I', rz, qz⟩ := e
  exact SlX.cmpback rz ⟨z', H', I', rz, qz⟩

/-- y in x, y not in x -/
def rInO (C : Addr) (neg : Bool) (sp : Sp) (E : XK) : R2 := fun y x H Q => ∃ a dx fs, x = .ref a ∧ H a = some (.ins C dx fs) ∧ sp [x, y] H (fun v H' => ∃ b, v = .bl b ∧ Q (.bl (if neg then !b else b)) H') E
theorem op_inO (m : Meth X.K C "__contains__" f) (F : FnOk X.prog X.w X.K X.mg X.base CX k f fd ps sp) (hr : Room k X.A) (hb : Binds X.K fd ps []) (hx : Passes CX X E) : OpR X (compareOp .In) (rInO C false sp E) := by
  intro pins s σ H y x u v Q I ry rx h
  obtain ⟨a, dx, fs, rfl, ha, q⟩ := h
  cases (show v = Value.ref a from rx)
  obtain ⟨od, J⟩ := Inv.inst I ha
  obtain ⟨mm, hF⟩ := I.fr
  refine PySem.W.in_K hF I.ok.mod.kin J m.at_ m.fn ?_
  refine wpAny_mono (run_in (us := [.ref a, u]) (vs := [.ref a, y]) F hr hb .nil hx I.env0 I (.cons rfl (.cons ry .nil)) (by rw [List.append_nil]; exact q)) (fun z s' e => ?_) fun _ _ e => e
  obtain ⟨z', H', I', rz, b, rfl, qz⟩ := e
  cases (show z = Value.bool b from rz)
  exact wpAny_truthy_bool ⟨.bl b, H', I', rfl, qz⟩
theorem op_notInO (m : Meth X.K C "__contains__" f) (F : FnOk X.prog X.w X.K X.mg X.base CX k f fd ps sp) (hr : Room k X.A) (hb : Binds X.K fd ps []) (hx : Passes CX X E) : OpR X (compareOp .NotIn) (rInO C true sp E) := by
  intro pins s σ H y x u v Q I ry rx h
  obtain ⟨a, dx, fs, rfl, ha, q⟩ := h
  cases (show v = Value.ref a from rx)
  obtain ⟨od, J⟩ := Inv.inst I ha
  obtain ⟨mm, hF⟩ := I.fr
  refine PySem.W.notIn_K hF I.ok.mod.kin J m.at_ m.fn ?_
  refine wpAny_mono (run_in (us := [.ref a, u]) (vs := [.ref a, y]) F hr hb .nil hx I.env0 I (.cons rfl (.cons ry .nil)) (by rw [List.append_nil]; exact q)) (fun z s' e => ?_) fun _ _ e => e
  obtain ⟨z', H', I', rz, b, rfl, qz⟩ := e
  cases (show z = Value.bool b from rz)
  exact wpAny_truthy_bool ⟨.bl (!b), H', I', rfl, qz⟩

/-- len(x) -/
def rLenO (C : Addr) (sp : Sp) (E : XK) : List V → Hp → VK → Prop := fun xs H Q => ∃ a dx fs, xs = [.ref a] ∧ H a = some (.ins C dx fs) ∧ sp xs H (fun v H' => ∃ n : Nat, v = .int n ∧ n < 2 ^ 62 ∧ Q v H') E
theorem call_lenO (m : Meth X.K C "__len__" f) (F : FnOk X.prog X.w X.K X.mg X.base CX k f fd ps sp) (hr : Room (k + 1) X.A) (hb : Binds X.K fd ps []) (hx : Passes CX X E) : CallR X (.builtin "len") (rLenO C sp E) := by
  intro pins s σ H xs us Q I r h
  obtain ⟨a, dx, fs, rfl, ha, q⟩ := h
  rw [Vals.ref1 r]
  obtain ⟨od, J⟩ := Inv.inst I ha
  obtain ⟨mm, hF⟩ := I.fr
  refine PySem.W.len_K hF I.ok.mod.kin J m.at_ m.fn ?_
  refine wpAny_mono (run_in (us := [.ref a]) (vs := [.ref a]) F hr.in1 hb .nil hx I.env0.in1 I (.cons rfl .nil) (by rw [List.append_nil]; exact q)) (fun z s' e => ?_) fun _ _ e => e
  obtain ⟨z', H', I', rz, n, rfl, hn, qz⟩ := e
  obtain ⟨t, rfl⟩ := (show ∃ t, z = Value.int n t from rz)
  exact ⟨⟨by omega, by omega⟩, .int n, H', I'.tok _, ⟨_, rfl⟩, qz⟩

/-- x[y] -/
def rGetO (C : Addr) (sp : Sp) (E : XK) : R2 := fun x y H Q => ∃ a dx fs, x = .ref a ∧ H a = some (.ins C dx fs) ∧ sp [x, y] H Q E
theorem pe_getO {o i : Expr} {to ti : TE} {pos : Pos} (m : Meth X.K C "__getitem__" f) (fn : PySem.W.fnIn X.K f = true) (F : FnOk X.prog X.w X.K X.mg X.base CX k f fd ps sp) (hr : Room (k + 1) X.A) (hb : Binds X.K fd ps []) (hx : Passes CX X E) (ho : PE X o to) (hi : PE X i ti)
    (hsl : ∀ x y, subscripted i true x y = runValue (.builtin "lifetime.subscript" ⟨[x, y], []⟩) := by intro _ _; with_unfolding_all rfl) : PE X (.Subscript o i pos) (tOp (rGetO C sp E) to ti) := by
  refine ⟨fun pins s σ H Q I h => ?_⟩
  refine Subscript_ (binT ho hi I h fun v u s2 x y H2 I2 rx ry q => ?_)
  obtain ⟨a, dx, fs, rfl, ha, q⟩ := q
  cases (show v = Value.ref a from rx)
  obtain ⟨od, J⟩ := Inv.inst I2 ha
  obtain ⟨mm, hF⟩ := I2.fr
  refine PySem.W.sub_K hF I2.ok.mod.kin J m.at_ fn m.fn ?_ (hsl _ _)
  exact run_in (us := [.ref a, u]) (vs := [.ref a, y]) F hr.in1 hb .nil hx I2.env0.in1 I2 (.cons rfl (.cons ry .nil)) (by rw [List.append_nil]; exact q)
end
end Mf
/-! Heaps with a source of draws; calls by one fact; texts that are names. -/
namespace Mf
open PySem L2

/-! ### heaps -/
/-- all that was tracked but what stands at a is as it was -/
def Kp (a : Addr) (H H' : Hp) : Prop := ∀ b o, b ≠ a → H b = some o → H' b = some o
theorem Kp.refl {a : Addr} {H : Hp} : Kp a H H := fun _ _ _ h => h
theorem Kp.trans {a : Addr} {H H1 H2 : Hp} (x : Kp a H H1) (y : Kp a H1 H2) : Kp a H H2 := fun b o n h => y b o n (x b o n h)
theorem Kp.same {a : Addr} {H H' : Hp} (x : Same H H') : Kp a H H' := fun b o _ h => x b o h
theorem Kp.then {a : Addr} {H H1 H2 : Hp} (x : Kp a H H1) (y : Same H1 H2) : Kp a H H2 := x.trans (.same y)
theorem Kp.new {a p : Addr} {H : Hp} {o : HO} (h : H p = none) : Kp a H (upd H p o) := fun b u _ e => by rw [upd_ne (ne_of_none e h)]; exact e
theorem Kp.put {a : Addr} {H H1 : Hp} {o : HO} (x : Kp a H H1) : Kp a H (upd H1 a o) := fun b u n e => by rw [upd_ne n]; exact x b u n e
/-- p was not there at H: it may change -/
theorem Kp.mut {a p : Addr} {H H1 : Hp} {o : HO} (x : Kp a H H1) (h : H p = none) : Kp a H (upd H1 p o) := fun b u n e => by rw [upd_ne (ne_of_none e h)]; exact x b u n e
theorem Kp.lst {K : PySem.W.Frag} {a t : Addr} {H H' : Hp} {xs : List V} (x : Kp a H H') (n : t ≠ a) (h : SqL K H t xs) : SqL K H' t xs := by
  rcases h with (h | ⟨o, h⟩) | h
  · exact .inl (.inl (x _ _ n h))
  · exact .inl (.inr ⟨o, x _ _ n h⟩)
  · exact .inr h
theorem Kp.tup {K : PySem.W.Frag} {a t : Addr} {H H' : Hp} {xs : List V} (x : Kp a H H') (n : t ≠ a) (h : SqT K H t xs) : SqT K H' t xs := by
  rcases h with (h | ⟨o, h⟩) | h
  · exact .inl (.inl (x _ _ n h))
  · exact .inl (.inr ⟨o, x _ _ n h⟩)
  · exact .inr h
theorem _root_.L2.Same.new {p : Addr} {H : Hp} {o : HO} (h : H p = none) : Same H (upd H p o) := fun b u e => by rw [upd_ne (ne_of_none e h)]; exact e
theorem _root_.L2.Same.mut {p : Addr} {H H1 : Hp} {o : HO} (x : Same H H1) (h : H p = none) : Same H (upd H1 p o) := fun b u e => by rw [upd_ne (ne_of_none e h)]; exact x b u e
theorem _root_.L2.Same.tup {K : PySem.W.Frag} {t : Addr} {H H' : Hp} {xs : List V} (x : Same H H') (h : SqT K H t xs) : SqT K H' t xs := by
  rcases h with (h | ⟨o, h⟩) | h
  · exact .inl (.inl (x _ _ h))
  · exact .inl (.inr ⟨o, x _ _ h⟩)
  · exact .inr h
theorem ne_none {H : Hp} {p a : Addr} {o : HO} (h : H p = none) (h' : H a = some o) : p ≠ a := fun e => by rw [e, h'] at h; cases h

/-! ### the source of draws -/
/-- at a: a source that has n draws left, and more -/
def Src (H : Hp) (a : Addr) (n : Nat) : Prop := ∃ g s c : Int, H a = some (.lst [.int g, .int s, .int c]) ∧ 0 ≤ s ∧ s < 2147483647 ∧ 0 ≤ c ∧ c + n ≤ 1099511627776
theorem Src.mono {H : Hp} {a : Addr} {n m : Nat} (x : Src H a n) (h : m ≤ n) : Src H a m := let ⟨g, s, c, e, a1, a2, a3, a4⟩ := x; ⟨g, s, c, e, a1, a2, a3, by omega⟩
theorem Src.same {H H' : Hp} {a : Addr} {n : Nat} (x : Src H a n) (h : Same H H') : Src H' a n := let ⟨g, s, c, e, r⟩ := x; ⟨g, s, c, h _ _ e, r⟩
theorem Src.ne {H : Hp} {a p : Addr} {n : Nat} (x : Src H a n) (h : H p = none) : p ≠ a := let ⟨_, _, _, e, _⟩ := x; ne_none h e
theorem Src.new {H : Hp} {a p : Addr} {n : Nat} {o : HO} (x : Src H a n) (h : H p = none) : Src (upd H p o) a n := x.same (Same.new h)
theorem Src.put {H : Hp} {a p : Addr} {n : Nat} {o : HO} (x : Src H a n) (h : p ≠ a) : Src (upd H p o) a n := let ⟨g, s, c, e, r⟩ := x; ⟨g, s, c, by rw [upd_ne (Ne.symm h)]; exact e, r⟩

/-! ### a def that is called by its name: one fact -/
structure Cal (P : Program) (w : World) (K : PySem.W.Frag) (mg : Str → Option Value) (base : Heap) (CX : CXT) (k : Nat) (x : Str) (ps : List Str) (sp : Sp) : Prop where
  ex : ∃ (f : Addr) (fd : FuncData), FnOk P w K mg base CX k f fd ps sp ∧ mg x = some (.ref f) ∧ PySem.W.keepIn K (.ref f) = true ∧ Binds K fd ps []
theorem pe_cal {X : Cx} {CX : CXT} {k : Nat} {x : Str} {ps : List Str} {sp : Sp} {E : XK} {e : Expr} {es : List Expr} {t : TA} {p pos : Pos} (c : Cal X.prog X.w X.K X.mg X.base CX k x ps sp) (hr : Room k X.A) (hx : Passes CX X E) (ha : PA X (e :: es) t) (hg : Gl X x := by rfl)
    (hdb : (x == ("__debug__" : Str)) = false := by decide) (he : starEach (e :: es) X.env = (false, eval e X.env) :: starEach es X.env := by rfl) (hpl : (backTo pos (starEach es X.env)).any (·.1) = false := by rfl) :
    PE X (.Call (.Name x p) (e :: es) [] pos) (tCall sp [] E t) := by
  obtain ⟨f, fd, F, m, kp, b⟩ := c.ex
  exact pe_call F hr hg m kp b .nil hx ha hdb he hpl
theorem Cal.mono {P : Program} {w : World} {K : PySem.W.Frag} {mg : Str → Option Value} {base : Heap} {CX : CXT} {k j : Nat} {x : Str} {ps : List Str} {sp : Sp} (c : Cal P w K mg base CX k x ps sp) (h : k ≤ j) : Cal P w K mg base CX j x ps sp :=
  let ⟨f, fd, F, m, kp, b⟩ := c.ex
  ⟨⟨f, fd, F.mono h, m, kp, b⟩⟩

/-! ### names -/
def Low (c : Nat) : Prop := 97 ≤ c ∧ c ≤ 122
def IsName (z : Str) : Prop := 1 ≤ z.cps.size ∧ z.cps.size ≤ 8 ∧ ∀ c ∈ z.cps.toList, Low c
instance (z : Str) : Decidable (IsName z) := by unfold IsName Low; infer_instance
theorem IsName.len {z : Str} (h : IsName z) : z.length ≤ 8 := h.2.1

theorem alpha_at {i : Int} (h0 : 0 ≤ i) (h : i < 26) : ∃ c, atI ("abcdefghijklmnopqrstuvwxyz" : Str).cps.toList i = some c ∧ Low c := by
  obtain ⟨n, rfl⟩ := Int.eq_ofNat_of_zero_le h0
  have e : ∀ n : Fin 26, atI ("abcdefghijklmnopqrstuvwxyz" : Str).cps.toList ((n.val : Nat) : Int) = some (97 + n.val) := by decide +kernel
  exact ⟨97 + n, e ⟨n, by omega⟩, by unfold Low; omega⟩

theorem atI_mem {α : Type} {xs : List α} {v : Int} (h0 : 0 ≤ v) (h : v < xs.length) : ∃ x ∈ xs, atI xs v = some x := by
  obtain ⟨n, rfl⟩ := Int.eq_ofNat_of_zero_le h0
  have hn : n < xs.length := by omega
  refine ⟨xs[n], List.getElem_mem hn, ?_⟩
  exact atI_nat (List.getElem?_eq_getElem hn)
theorem inV_str {z : Str} {zs : List Str} : inV (.str z) (zs.map V.str) = decide (z ∈ zs) := by
  unfold inV
  induction zs with
  | nil => rfl
  | cons y ys ih =>
    rw [List.map_cons, List.any_cons, ih]
    show ((y == z) || _) = _
    by_cases h : y = z
    · subst h; simp
    · have h' : ¬ z = y := fun e => h e.symm
      simp [h, h']
theorem tl_inj {x y : Str} (h : x.cps.toList = y.cps.toList) : x = y := by
  cases x; cases y
  simp only [Str.mk.injEq]
  exact Array.toList_inj.mp h
theorem join_nil (ys : List Str) : (Txt.join ("" : Str) ys).cps.toList = (ys.map fun y => y.cps.toList).flatten := by
  rw [TL.join_eq, show (Str.join ("" : Str) ys).cps.toList = TL.tl (Str.join ("" : Str) ys) from rfl, TL.tl_join]
  show TL.joinL [] (ys.map TL.tl) = _
  generalize ys.map TL.tl = l
  induction l with
  | nil => rfl
  | cons p r ih =>
    cases r with
    | nil => simp [TL.joinL]
    | cons q r => show p ++ ([] ++ TL.joinL [] (q :: r)) = _; rw [ih]; simp
theorem join_signs (cs : List Nat) : Txt.join ("" : Str) (cs.map fun c => (⟨#[c]⟩ : Str)) = ⟨cs.toArray⟩ := by
  refine tl_inj ?_
  rw [join_nil, List.map_map]
  show (cs.map fun c => [c]).flatten = cs
  induction cs with
  | nil => rfl
  | cons c cs ih => rw [List.map_cons, List.flatten_cons, ih]; rfl
theorem str_add (x y : Str) : (x ++ y).cps.toList = x.cps.toList ++ y.cps.toList := TL.tl_append x y
theorem len_tl (z : Str) : z.length = z.cps.toList.length := by show z.cps.size = _; rw [Array.length_toList]

/-! ### rules whose reading names the written part (for comprehensions' blocks) -/
section
variable (K : PySem.W.Frag) {X : Cx}
theorem ixl (h : X.K = K := by rfl) : IxR X (rIxL K) := h ▸ ix_list
theorem ixt (h : X.K = K := by rfl) : IxR X (rIxT K) := h ▸ ix_tup
theorem oin (h : X.K = K := by rfl) : OpR X (compareOp .In) (rIn K false) := h ▸ op_in_seq
theorem nin (h : X.K = K := by rfl) : OpR X (compareOp .NotIn) (rIn K true) := h ▸ op_notIn_seq
def rLenK : List V → Hp → VK → Prop := fun xs H Q => ∃ p ys, xs = [.ref p] ∧ (SqL K H p ys ∨ SqT K H p ys) ∧ Q (.int (ys.length : Nat)) H
theorem k_len (h : X.K = K := by rfl) : CallR X (.builtin "len") (rLenK K) := h ▸ call_len_seq
def rListK : List V → Hp → VK → Prop := fun xs H Q => ∃ p ys, xs = [.ref p] ∧ (SqL K H p ys ∨ SqT K H p ys) ∧ ∀ l, H l = none → Q (.ref l) (upd H l (.lst ys))
theorem k_list (h : X.K = K := by rfl) : CallR X (.type "list") (rListK K) := h ▸ call_list_of
def rTupK : List V → Hp → VK → Prop := fun xs H Q => ∃ p ys, xs = [.ref p] ∧ ((SqL K H p ys ∧ ∀ l, H l = none → Q (.ref l) (upd H l (.tup ys))) ∨ (SqT K H p ys ∧ Q (.ref p) H))
theorem k_tuple (h : X.K = K := by rfl) : CallR X (.type "tuple") (rTupK K) := h ▸ call_tuple_of
theorem k_isi (h : X.K = K := by rfl) : CallR X (.builtin "isinstance") (rIsi K) := h ▸ call_isi
theorem k_all (hc : X.calm = true := by rfl) (h : X.K = K := by rfl) : CallR X (.builtin "all") (rAll K) := h ▸ cr_all hc
theorem k_any (hc : X.calm = true := by rfl) (h : X.K = K := by rfl) : CallR X (.builtin "any") (rAny K) := h ▸ cr_any hc
theorem k_sortedS (h : X.K = K := by rfl) : CallR X (.builtin "sorted") (rSortedS K) := h ▸ cr_sortedS
theorem eqD {k : Nat} (hr : Room k X.A) (h : X.K = K := by rfl) : OpR X (compareOp .Eq) (rEqD K) := h ▸ op_eqD hr.units
theorem neD {k : Nat} (hr : Room k X.A) (h : X.K = K := by rfl) : OpR X (compareOp .NotEq) (rNeD K) := h ▸ op_neD hr.units
theorem fldK {e : Expr} {ta : TE} {f : Str} {pos : Pos} (he : PE X e ta) (hb : attributeBase e f X.env (eval e X.env) = eval e X.env := by rfl) (h : X.K = K := by rfl) : PE X (.Attribute e f pos) (tFld K ta f) := h ▸ pe_fld he hb
end
theorem yes_then {σ : L2.St} {H : Hp} {A B : Hp → Prop} (h : A H) : tYes σ H (fun b H3 => if b = true then A H3 else B H3) := by
  show (if true = true then A H else B H)
  rw [if_pos rfl]
  exact h
end Mf
/-! Sorted texts: the order, and that a sorted row without repeats is the only one of its members. -/
namespace Mf
open PySem L2
theorem lt_irr : ∀ l : List Nat, Spec.ltCps l l = false
  | [] => rfl
  | a :: r => by
    show (decide (a < a) || (a == a && Spec.ltCps r r)) = false
    rw [lt_irr r]; simp
theorem lt_asym : ∀ l m : List Nat, Spec.ltCps l m = true → Spec.ltCps m l = false
  | [], [], h => rfl
  | [], _ :: _, _ => rfl
  | _ :: _, [], h => by cases h
  | a :: r, b :: t, h => by
    have h : (decide (a < b) || (a == b && Spec.ltCps r t)) = true := h
    show (decide (b < a) || (b == a && Spec.ltCps t r)) = false
    simp only [Bool.or_eq_true, decide_eq_true_eq, Bool.and_eq_true, beq_iff_eq] at h
    simp only [Bool.or_eq_false_iff, decide_eq_false_iff_not, Bool.and_eq_false_iff, beq_eq_false_iff_ne]
    rcases h with h2 | ⟨rfl, h2⟩
    · exact ⟨by omega, .inl (by omega)⟩
    · exact ⟨by omega, .inr (lt_asym r t h2)⟩
theorem lt_tri : ∀ l m : List Nat, Spec.ltCps l m = false → Spec.ltCps m l = false → l = m
  | [], [], _, _ => rfl
  | [], _ :: _, h, _ => by cases h
  | _ :: _, [], _, h => by cases h
  | a :: r, b :: t, h, g => by
    have h : (decide (a < b) || (a == b && Spec.ltCps r t)) = false := h
    have g : (decide (b < a) || (b == a && Spec.ltCps t r)) = false := g
    simp only [Bool.or_eq_false_iff, decide_eq_false_iff_not, Bool.and_eq_false_iff, beq_eq_false_iff_ne] at h g
    obtain rfl : a = b := by omega
    rw [lt_tri r t (h.2.resolve_left fun n => n rfl) (g.2.resolve_left fun n => n rfl)]
theorem lt_trans : ∀ l m n : List Nat, Spec.ltCps l m = true → Spec.ltCps m n = true → Spec.ltCps l n = true
  | [], [], _, h, _ => by cases h
  | [], _ :: _, [], _, h => by cases h
  | [], _ :: _, _ :: _, _, _ => rfl
  | _ :: _, [], _, h, _ => by cases h
  | _ :: _, _ :: _, [], _, h => by cases h
  | a :: r, b :: t, c :: u, h, g => by
    have h : (decide (a < b) || (a == b && Spec.ltCps r t)) = true := h
    have g : (decide (b < c) || (b == c && Spec.ltCps t u)) = true := g
    show (decide (a < c) || (a == c && Spec.ltCps r u)) = true
    simp only [Bool.or_eq_true, decide_eq_true_eq, Bool.and_eq_true, beq_iff_eq] at h g ⊢
    rcases h with h2 | ⟨rfl, h2⟩
    · rcases g with g2 | ⟨rfl, g2⟩
      · left; omega
      · left; exact h2
    · rcases g with g2 | ⟨rfl, g2⟩
      · left; exact g2
      · right; exact ⟨rfl, lt_trans r t u h2 g2⟩
def Lt (x y : Str) : Prop := Spec.ltCps x.cps.toList y.cps.toList = true
theorem Lt.ne {x y : Str} (h : Lt x y) : x ≠ y := fun e => by subst e; unfold Lt at h; rw [lt_irr] at h; cases h
theorem Lt.asymm {x y : Str} (h : Lt x y) : ¬ Lt y x := fun g => by unfold Lt at h g; rw [lt_asym _ _ h] at g; cases g
theorem Lt.trans {x y z : Str} (h : Lt x y) (g : Lt y z) : Lt x z := lt_trans _ _ _ h g
theorem not_lt {x y : Str} (h : Spec.ltCps y.cps.toList x.cps.toList = false) (n : x ≠ y) : Lt x y := by
  unfold Lt
  cases e : Spec.ltCps x.cps.toList y.cps.toList with
  | true => rfl
  | false => exact absurd (tl_inj (lt_tri _ _ e h)) n
/-- in order, each once -/
def Up (l : List Str) : Prop := l.Pairwise Lt
theorem Up.nd {l : List Str} (h : Up l) : l.Nodup := List.Pairwise.imp (fun h => h.ne) h
theorem rising_up : ∀ (l : List Str) (p : Str), PyProof.Rows.risingS p l = true → (p :: l).Nodup → Up (p :: l)
  | [], p, _, _ => List.pairwise_singleton _ _
  | x :: r, p, h, nd => by
    have h : (!Spec.ltCps x.cps.toList p.cps.toList && PyProof.Rows.risingS x r) = true := h
    obtain ⟨h1, h2⟩ := Bool.and_eq_true_iff.mp h
    obtain ⟨n1, n2⟩ := List.nodup_cons.mp nd
    have u := rising_up r x h2 n2
    have px : Lt p x := not_lt (by simpa using h1) fun e => n1 (e ▸ List.mem_cons_self)
    refine List.pairwise_cons.mpr ⟨fun y hy => ?_, u⟩
    rcases List.mem_cons.mp hy with rfl | hy
    · exact px
    · exact px.trans ((List.pairwise_cons.mp u).1 y hy)
theorem up_of {l : List Str} (h : PyProof.Rows.sortedS l = true) (nd : l.Nodup) : Up l := by
  cases l with
  | nil => exact List.Pairwise.nil
  | cons x r => exact rising_up r x h nd
theorem up_one : ∀ {xs ys : List Str}, Up xs → Up ys → (∀ z, z ∈ xs ↔ z ∈ ys) → xs = ys
  | [], [], _, _, _ => rfl
  | [], y :: _, _, _, h => absurd ((h y).mpr List.mem_cons_self) (by simp)
  | x :: _, [], _, _, h => absurd ((h x).mp List.mem_cons_self) (by simp)
  | x :: xs, y :: ys, u, v, h => by
    obtain ⟨u1, u2⟩ := List.pairwise_cons.mp u
    obtain ⟨v1, v2⟩ := List.pairwise_cons.mp v
    have e : x = y := by
      rcases List.mem_cons.mp ((h x).mp List.mem_cons_self) with e | m
      · exact e
      · rcases List.mem_cons.mp ((h y).mpr List.mem_cons_self) with e | m'
        · exact e.symm
        · exact absurd (u1 y m') (v1 x m).asymm
    subst e
    rw [up_one u2 v2 fun z => ?_]
    constructor
    · intro m
      rcases List.mem_cons.mp ((h z).mp (List.mem_cons_of_mem _ m)) with e | q
      · exact absurd e.symm (u1 z m).ne
      · exact q
    · intro m
      rcases List.mem_cons.mp ((h z).mpr (List.mem_cons_of_mem _ m)) with e | q
      · exact absurd e.symm (v1 z m).ne
      · exact q
theorem nodup_le {α : Type} [DecidableEq α] : ∀ {l m : List α}, l.Nodup → l ⊆ m → l.length ≤ m.length
  | [], _, _, _ => Nat.zero_le _
  | x :: l, m, nd, sub => by
    obtain ⟨n1, n2⟩ := List.nodup_cons.mp nd
    have hx : x ∈ m := sub List.mem_cons_self
    have ih := nodup_le (m := m.erase x) n2 fun y hy => (List.mem_erase_of_ne (by rintro rfl; exact n1 hy)).mpr (sub (List.mem_cons_of_mem _ hy))
    rw [List.length_erase_of_mem hx] at ih
    have := List.length_pos_of_mem hx
    rw [List.length_cons]
    omega
theorem nodup_len {α : Type} [DecidableEq α] : ∀ {ys l : List α}, l.Nodup → l ⊆ ys → ys.length = l.length → ys.Nodup
  | [], _, _, _, _ => List.nodup_nil
  | y :: ys, l, nd, sub, e => by
    have hy : y ∈ l := Classical.byContradiction fun n => by
      have q := nodup_le (m := ys) nd fun z hz => (List.mem_cons.mp (sub hz)).resolve_left (by rintro rfl; exact n hz)
      rw [List.length_cons] at e
      omega
    have ny : y ∉ ys := fun m => by
      have q := nodup_le (m := ys) nd fun z hz => by
        rcases List.mem_cons.mp (sub hz) with rfl | h
        · exact m
        · exact h
      rw [List.length_cons] at e
      omega
    refine List.nodup_cons.mpr ⟨ny, nodup_len (l := l.erase y) (nd.erase y) (fun z hz => ?_) ?_⟩
    · obtain ⟨h1, h2⟩ := (nd.mem_erase_iff).mp hz
      exact (List.mem_cons.mp (sub h2)).resolve_left h1
    · rw [List.length_erase_of_mem hy, ← e, List.length_cons]; rfl
theorem sum_len {ys : List Str} {B : Nat} (h : ∀ y ∈ ys, y.length ≤ B) : (ys.map (·.length)).sum ≤ ys.length * B := by
  induction ys with
  | nil => simp
  | cons y ys ih =>
    rw [List.map_cons, List.sum_cons, List.length_cons, Nat.succ_mul]
    have a := h y List.mem_cons_self
    have b := ih fun z hz => h z (List.mem_cons_of_mem _ hz)
    omega
theorem flat_strs (zs : List Str) : (zs.map V.str).all flatV = true := by rw [List.all_map]; exact List.all_eq_true.mpr fun _ _ => rfl

/-! ### data that are compared -/
theorem dpS {K : PySem.W.Frag} {H : Hp} : ∀ zs : List Str, DpAll K H (zs.map V.str) (zs.map PyData.str)
  | [] => .nil
  | z :: zs => .cons (.str z) (dpS zs)
theorem dpB {K : PySem.W.Frag} {H : Hp} : ∀ bs : List Bool, DpAll K H (bs.map V.bl) (bs.map PyData.bool)
  | [] => .nil
  | b :: bs => .cons (.bl b) (dpB bs)
theorem eqvB : ∀ bs cs : List Bool, PyData.eqvAll (bs.map PyData.bool) (cs.map PyData.bool) = decide (bs = cs)
  | [], [] => rfl
  | [], _ :: _ => rfl
  | _ :: _, [] => rfl
  | b :: bs, c :: cs => by
    show ((b == c) && PyData.eqvAll (bs.map PyData.bool) (cs.map PyData.bool)) = _
    rw [eqvB bs cs]
    by_cases h : b = c <;> simp [h]
theorem eqvS : ∀ bs cs : List Str, PyData.eqvAll (bs.map PyData.str) (cs.map PyData.str) = decide (bs = cs)
  | [], [] => rfl
  | [], _ :: _ => rfl
  | _ :: _, [] => rfl
  | b :: bs, c :: cs => by
    show ((b == c) && PyData.eqvAll (bs.map PyData.str) (cs.map PyData.str)) = _
    rw [eqvS bs cs]
    by_cases h : b = c <;> simp [h]
theorem layB : ∀ bs : List Bool, PyData.canLayAll0 (bs.map PyData.bool) = true
  | [] => rfl
  | b :: bs => by show (true && PyData.canLayAll0 (bs.map PyData.bool)) = true; rw [layB bs]; rfl
theorem layS : ∀ zs : List Str, (∀ z ∈ zs, PyData.strOk z = true) → PyData.canLayAll0 (zs.map PyData.str) = true
  | [], _ => rfl
  | z :: zs, h => by
    show (PyData.strOk z && PyData.canLayAll0 (zs.map PyData.str)) = true
    rw [h z List.mem_cons_self, layS zs fun y hy => h y (List.mem_cons_of_mem _ hy)]; rfl
theorem depAll : ∀ {ds : List PyData}, (∀ d ∈ ds, PyData.depth d = 0) → PyData.depthAll ds = 0
  | [], _ => rfl
  | d :: ds, h => by
    show max (PyData.depth d) (PyData.depthAll ds) = 0
    rw [h d List.mem_cons_self, depAll fun y hy => h y (List.mem_cons_of_mem _ hy)]; rfl
theorem shB (bs : List Bool) : SeqAt.shaped (.list (bs.map PyData.bool)) = true := by
  refine Bool.and_eq_true_iff.mpr ⟨layB bs, decide_eq_true ?_⟩
  show PyData.depthAll (bs.map PyData.bool) + 1 ≤ 64
  rw [depAll fun d hd => by obtain ⟨b, _, rfl⟩ := List.mem_map.mp hd; rfl]
  decide
theorem shT {zs : List Str} (h : ∀ z ∈ zs, PyData.strOk z = true) : SeqAt.shaped (.tuple (zs.map PyData.str)) = true := by
  refine Bool.and_eq_true_iff.mpr ⟨layS zs h, decide_eq_true ?_⟩
  show PyData.depthAll (zs.map PyData.str) + 1 ≤ 64
  rw [depAll fun d hd => by obtain ⟨b, _, rfl⟩ := List.mem_map.mp hd; rfl]
  decide
theorem shL {zs : List Str} (h : ∀ z ∈ zs, PyData.strOk z = true) : SeqAt.shaped (.list (zs.map PyData.str)) = true := by
  refine Bool.and_eq_true_iff.mpr ⟨layS zs h, decide_eq_true ?_⟩
  show PyData.depthAll (zs.map PyData.str) + 1 ≤ 64
  rw [depAll fun d hd => by obtain ⟨b, _, rfl⟩ := List.mem_map.mp hd; rfl]
  decide
theorem IsName.ok {z : Str} (h : IsName z) : PyData.strOk z = true := by
  show z.cps.all (fun x => decide (x < 1114112)) = true
  rw [← Array.all_toList, List.all_eq_true]
  intro c hc
  have := (h.2.2 c hc).2
  exact decide_eq_true (by omega)
end Mf
/-! Classes and methods by one fact each; readings of the own operators. -/
namespace Mf
open PySem L2
/-- C(..): the class at C, its __init__'s promise, the defaults that fill up -/
structure CalC (P : Program) (w : World) (K : PySem.W.Frag) (mg : Str → Option Value) (base : Heap) (CX : CXT) (k : Nat) (x : Str) (C : Addr) (ps : List Str) (sp : Sp) (dvs : List V) : Prop where
  ex : ∃ (f : Addr) (fd : FuncData) (ds : List Value), Mk K C f ∧ FnOk P w K mg base CX k f fd ps sp ∧ mg x = some (.ref C) ∧ Binds K fd ps ds ∧ Vals dvs ds
/-- a method -/
structure CalM (P : Program) (w : World) (K : PySem.W.Frag) (mg : Str → Option Value) (base : Heap) (CX : CXT) (k : Nat) (C : Addr) (m : Str) (ps : List Str) (sp : Sp) : Prop where
  ex : ∃ (f : Addr) (fd : FuncData), Meth K C m f ∧ PySem.W.fnIn K f = true ∧ FnOk P w K mg base CX k f fd ps sp ∧ Binds K fd ps []
section
variable {X : Cx} {CX : CXT} {k : Nat} {x m : Str} {C : Addr} {ps : List Str} {sp : Sp} {dvs : List V} {E : XK} {e o : Expr} {es : List Expr} {t : TA} {p pos apos : Pos} {ta to ti : TE}
theorem pe_mkc (c : CalC X.prog X.w X.K X.mg X.base CX k x C ps sp dvs) (hr : Room (k + 1) X.A) (hx : Passes CX X E) (ha : PA X (e :: es) t) (hg : Gl X x := by rfl)
    (hdb : (x == ("__debug__" : Str)) = false := by decide) (he : starEach (e :: es) X.env = (false, eval e X.env) :: starEach es X.env := by rfl) (hpl : (backTo pos (starEach es X.env)).any (·.1) = false := by rfl) :
    PE X (.Call (.Name x p) (e :: es) [] pos) (tMake C sp dvs E t) := by
  obtain ⟨f, fd, ds, M, F, mm, b, v⟩ := c.ex
  exact pe_make M F hr hg mm b v hx ha hdb he hpl
theorem pe_mkc0 (c : CalC X.prog X.w X.K X.mg X.base CX k x C ps sp dvs) (hr : Room (k + 1) X.A) (hx : Passes CX X E) (hg : Gl X x := by rfl) (hdb : (x == ("__debug__" : Str)) = false := by decide) :
    PE X (.Call (.Name x p) [] [] pos) (tMake C sp dvs E tNil) := by
  obtain ⟨f, fd, ds, M, F, mm, b, v⟩ := c.ex
  exact pe_make0 M F hr hg mm b v hx hdb
theorem om_cmp {op : CmpOp} (K : PySem.W.Frag) (c : CalM X.prog X.w X.K X.mg X.base CX k C (cmpInfo op).2.1 ps sp) (hr : Room k X.A) (hx : Passes CX X E) (hop : ∀ a b, compareOp op a b = richCompare op a b := by exact fun _ _ => rfl) (h : X.K = K := by rfl) : OpR X (compareOp op) (rCmpO K C sp E) := by
  obtain ⟨f, fd, M, _, F, b⟩ := c.ex
  exact h ▸ op_cmpO M F hr b hx hop
theorem om_ne (K : PySem.W.Frag) (c : CalM X.prog X.w X.K X.mg X.base CX k C "__eq__" ps sp) (ne : PySem.W.findIn X.K (.ref C) "__ne__" = some (some (.builtin "object.__ne__"))) (mo : PySem.W.mroIn X.K C (.type "object") = some true)
    (hr : Room (k + 1) X.A) (hx : Passes CX X E) (h : X.K = K := by rfl) : OpR X (compareOp .NotEq) (rNeO K C sp E) := by
  obtain ⟨f, fd, M, _, F, b⟩ := c.ex
  exact h ▸ op_neO M ne mo F hr b hx
theorem om_bin {op : Operator} (c : CalM X.prog X.w X.K X.mg X.base CX k C (PySem.dunder op.info.2) ps sp) (sf : PySem.W.selfFirst X.K C = true) (hr : Room k X.A) (hx : Passes CX X E) : OpR X (binaryOp op) (rBinO C sp E) := by
  obtain ⟨f, fd, M, _, F, b⟩ := c.ex
  exact op_binO M sf F hr b hx
theorem om_in (c : CalM X.prog X.w X.K X.mg X.base CX k C "__contains__" ps sp) (hr : Room k X.A) (hx : Passes CX X E) : OpR X (compareOp .In) (rInO C false sp E) := by
  obtain ⟨f, fd, M, _, F, b⟩ := c.ex
  exact op_inO M F hr b hx
theorem om_notIn (c : CalM X.prog X.w X.K X.mg X.base CX k C "__contains__" ps sp) (hr : Room k X.A) (hx : Passes CX X E) : OpR X (compareOp .NotIn) (rInO C true sp E) := by
  obtain ⟨f, fd, M, _, F, b⟩ := c.ex
  exact op_notInO M F hr b hx
theorem om_len (c : CalM X.prog X.w X.K X.mg X.base CX k C "__len__" ps sp) (hr : Room (k + 1) X.A) (hx : Passes CX X E) : CallR X (.builtin "len") (rLenO C sp E) := by
  obtain ⟨f, fd, M, _, F, b⟩ := c.ex
  exact call_lenO M F hr b hx
theorem om_get {i : Expr} (c : CalM X.prog X.w X.K X.mg X.base CX k C "__getitem__" ps sp) (hr : Room (k + 1) X.A) (hx : Passes CX X E) (ho : PE X o to) (hi : PE X i ti)
    (hsl : ∀ x y, subscripted i true x y = runValue (.builtin "lifetime.subscript" ⟨[x, y], []⟩) := by intro _ _; with_unfolding_all rfl) : PE X (.Subscript o i pos) (tOp (rGetO C sp E) to ti) := by
  obtain ⟨f, fd, M, fn, F, b⟩ := c.ex
  exact pe_getO M fn F hr b hx ho hi hsl
theorem om_meth {pl : Sem Bool} (he : PE X o ta) (c : Cls X.K C) (cm : CalM X.prog X.w X.K X.mg X.base CX k C m ps sp) (hr : Room k X.A) (hx : Passes CX X E) (ha : PA X (e :: es) t)
    (hst : starEach (e :: es) X.env = (false, eval e X.env) :: starEach es X.env := by rfl) (hpl : (backTo pos (starEach es X.env)).any (·.1) = false := by rfl)
    (ht : eval (.Call (.Attribute o m apos) (e :: es) [] pos) X.env = (do
      let ov ← eval o X.env
      standAt apos.atName
      let (f, first) ← holding [ov] (getMethod ov m pl)
      callWith pos f first (backTo pos (starEach (e :: es) X.env)) (backToKw pos (keywordEach [] X.env))) := by rfl) :
    PE X (.Call (.Attribute o m apos) (e :: es) [] pos) (tMeth C m sp [] E ta t) := by
  obtain ⟨f, fd, M, fn, F, b⟩ := cm.ex
  exact pe_meth he c M F hr b .nil hx ha hst hpl ht
theorem om_meth0 {pl : Sem Bool} (he : PE X o ta) (c : Cls X.K C) (cm : CalM X.prog X.w X.K X.mg X.base CX k C m ps sp) (hr : Room k X.A) (hx : Passes CX X E)
    (ht : eval (.Call (.Attribute o m apos) [] [] pos) X.env = (do
      let ov ← eval o X.env
      standAt apos.atName
      let (f, first) ← holding [ov] (getMethod ov m pl)
      callWith pos f first (backTo pos (starEach [] X.env)) (backToKw pos (keywordEach [] X.env))) := by rfl) :
    PE X (.Call (.Attribute o m apos) [] [] pos) (tMeth C m sp [] E ta tNil) := by
  obtain ⟨f, fd, M, fn, F, b⟩ := cm.ex
  exact pe_meth0 he c M F hr b .nil hx ht
end
/-- c and b, where b is asked without a change of the heap -/
theorem and_then {c b : Bool} {σ : L2.St} {H : Hp} {tb : TE} {Q : VK} (ht : c = true → ∀ Q' : VK, Q' (.bl b) H → tb σ H Q') (k : Q (.bl (c && b)) H) : if c = true then tb σ H Q else Q (.bl false) H := by
  cases c with
  | true => exact iteT (ht rfl Q (by simpa using k))
  | false => exact iteF k
end Mf
/-! From the head's facts to calls. -/
namespace Mf
open PySem L2
theorem kit_self {K : PySem.W.Frag} {C : Addr} : PySem.W.kitOne K (.ref C) (.ref C) = some true := by unfold PySem.W.kitOne; rw [if_pos (by simp)]
theorem kit_own {K : PySem.W.Frag} {C : Addr} {T : String} {b : Bool} (i : PySem.W.isClsIn K C = true) (t : PySem.W.typeIn K (.ref C) = some (.type "type")) (s : PySem.W.subIn K (.type T) (.ref C) = some b) : PySem.W.kitOne K (.type T) (.ref C) = some b := by
  have i' : (PySem.W.clsIn K C).isSome = true := i
  unfold PySem.W.kitOne PySem.W.kitCls
  rw [if_neg (by simp)]
  show (if ((PySem.W.clsIn K C).isSome && PySem.W.typeIn K (.ref C) == some (.type "type")) = true then PySem.W.subIn K (.type T) (.ref C) else none) = some b
  rw [if_pos (by rw [i', t]; rfl)]
  exact s
theorem notFirst_of {K : PySem.W.Frag} {C : Addr} {T : String} (s : PySem.W.subIn K (.type T) (.ref C) = some false) : PySem.W.notFirst K C (.type T) = true := by
  unfold PySem.W.notFirst
  rw [s]; simp
/-- a def of the text as it stands behind the top -/
structure DefF (K : PySem.W.Frag) (x : Str) (st : Stmt) (f : Addr) : Prop where
  ex : ∃ (oc : Value) (od : Option Addr) (sl : Array (Option Value)) (kV dc pm : Value) (an : Option Addr) (cd ct : Value), PySem.W.nsIn K mainGlobals x = some (some (.ref f)) ∧
    K.lookup f = some ⟨oc, od, .func (PySem.W.fnOf x x (defArgs st) (defBody st) (defScope st) .none kV dc pm an cd ct), sl⟩ ∧ PySem.W.codeIn K cd x = true ∧ PySem.W.keepIn K (.ref f) = true
/-- a method of the class at C -/
structure MetF (K : PySem.W.Frag) (C : Addr) (m qual : Str) (st : Stmt) (f : Addr) : Prop where
  ex : ∃ (oc : Value) (od : Option Addr) (sl : Array (Option Value)) (kV dc pm : Value) (an : Option Addr) (cd ct : Value), PySem.W.findIn K (.ref C) m = some (some (.ref f)) ∧
    K.lookup f = some ⟨oc, od, .func (PySem.W.fnOf m qual (defArgs st) (defBody st) (defScope st) .none kV dc pm an cd ct), sl⟩ ∧ PySem.W.codeIn K cd qual = true ∧ PySem.W.keepIn K (.ref f) = true ∧ PySem.W.isFn K (.ref f) = true ∧ PySem.W.fnIn K f = true
section
variable {P : Program} {w : World} {K : PySem.W.Frag} {mg : Str → Option Value} {base h : Heap} {CX : CXT} {k : Nat} {x m qual : Str} {st : Stmt} {f C : Addr} {ps : List Str} {sp : Sp}
abbrev BindP (x qual : Str) (st : Stmt) (ps : List Str) : Prop := ∀ (kV doc pm : Value) (an : Option Addr) (cdv ct : Value) (us : List Value), us.length = ps.length → bindArgs (PySem.W.fnOf x qual (defArgs st) (defBody st) (defScope st) .none kV doc pm an cdv ct) ⟨us, []⟩ = pure (ps.zip us)
theorem DefF.cal (D : DefF K x st f) (X : K.In h) (G : h.Ns mainGlobals mg) (hb : BindP x x st ps) (ok : ∀ fd, Fun K x x st f fd → FnOk P w K mg base CX k f fd ps sp) : Cal P w K mg base CX k x ps sp := by
  obtain ⟨oc, od, sl, kV, dc, pm, an, cd, ct, a, l, c, q⟩ := D.ex
  have F := fun_mk (st := st) l c q
  exact ⟨⟨f, _, ok _ F, PySem.W.mg_of X G a, q, F.binds hb⟩⟩
theorem MetF.cal (D : MetF K C m qual st f) (hb : BindP m qual st ps) (ok : ∀ fd, Fun K m qual st f fd → FnOk P w K mg base CX k f fd ps sp) : CalM P w K mg base CX k C m ps sp := by
  obtain ⟨oc, od, sl, kV, dc, pm, an, cd, ct, a, l, c, q, i, n⟩ := D.ex
  have F := fun_mk (st := st) l c q
  exact ⟨⟨f, _, ⟨a, i, q⟩, n, ok _ F, F.binds hb⟩⟩
/-- the law itself -/
theorem DefF.law {fa : Addr} (D : DefF K "law" st f) (X : K.In h) (G : h.Ns mainGlobals mg) (hfa : mg "law" = some (.ref fa)) (hb : ∀ (kV doc pm : Value) (an : Option Addr) (cdv ct : Value) (s : Shared) (v : Value), BindsTo s (PySem.W.fnOf "law" "law" (defArgs st) (defBody st) (defScope st) .none kV doc pm an cdv ct) ⟨[v], []⟩ [("_law_script", v)])
    (ok : ∀ base : Heap, K.In base → base.Ns mainGlobals mg → ∀ fd, Fun K "law" "law" st f fd → FnOk P w K mg base CX0 k f fd ["_law_script"] sp) :
    ∃ fd : FuncData, (∀ (s : Shared) (v : Value), BindsTo s fd ⟨[v], []⟩ [("_law_script", v)]) ∧ ∀ base : Heap, K.In base → base.Ns mainGlobals mg → FnOk P w K mg base CX0 k fa fd ["_law_script"] sp := by
  obtain ⟨oc, od, sl, kV, dc, pm, an, cd, ct, a, l, c, q⟩ := D.ex
  have e := hfa.symm.trans (PySem.W.mg_of X G a)
  cases e
  exact ⟨_, hb kV dc pm an cd ct, fun base b1 b2 => ok base b1 b2 _ (fun_mk (st := st) l c q)⟩
/-- what a law takes and gives -/
def spLaw (K : PySem.W.Frag) : Sp := fun vs H Q _ => ∃ (a : Addr) (ns : List Int), vs = [.ref a] ∧ SqL K H a (ns.map V.int) ∧ ns.length ≤ 63 ∧ ∀ H', Q (.bl true) H'
end
theorem walk {n : Nat} {l : PySem.W.OpenLaw} {q : Program} {loose : List Str} {XP : (Str → Option Value) → Heap → Prop} {YP : World → Heap → Prop} {d : DefRec} {K : Params → PySem.W.Frag} (hn : l.most = some 63) (hdf : d.params.defaults = [])
    (hr : Room n callerA)
    (hY : ∀ (w : World) (h : Heap), YP w h → (K w.params).In h)
    (F : ∀ (w : World) (mg : Str → Option Value) (fa : Addr) (h : Heap), (K w.params).In h → h.Ns mainGlobals mg → mg d.name = some (.ref fa) →
      ∃ fd : FuncData, (∀ (s : Shared) (u : Value), BindsTo s fd ⟨[u], []⟩ [("_law_script", u)]) ∧ ∀ base : Heap, (K w.params).In base → base.Ns mainGlobals mg → FnOk l.prog w (K w.params) mg base CX0 n fa fd ["_law_script"] (spLaw (K w.params))) :
    PySem.W.WalkO q loose XP YP l.row.toRowW d [] (fun f vs => PySem.call f vs) :=
  L2.walk_of (n := 63) (k := n) (x := "_law_script") (CX := fun _ => CX0) (sp := fun w => spLaw (K w.params)) hn (by decide) hdf hr hY F (fun _ _ a ns hl _ hS => ⟨a, ns, rfl, hS, hl, fun _ => rfl⟩) fun _ _ _ _ _ z => z
end Mf


namespace Mf
open PySem L2

/-- the rule for making an error, also with keywords: the check of its maker -/
theorem eck {M : Model} {A : Around} {E : Value → Shared → Prop} {h : Heap} {g : Array GenState}
    {d : Drawn} {t : Nat} {os : OsState} {nm q : Str} {C N : Addr} {bs bm bmB : List Value} {hdct : Bool} {sn : List Str}
    {sub : List Value} {ab : Bool} {col : Option Bool} {dd : Option Addr} {k0 k1 k2 k3 k5 : Option Value}
    {B newId initId : String} (F : ExcBaseFacts B newId initId bmB)
    (hb : ∀ X : String, bm.contains (Value.type X) = bmB.contains (Value.type X))
    {rest : List Value} {kw : List (Str × Value)} {Q : Unit → Shared → Prop}
    (hC : h.get? C = some (excClassObj nm q C N bs bm hdct sn sub ab col dd k0 k1 k2 k3 k5 newId))
    (hQ : Q () ⟨h, g, d, t, os⟩) :
    wpAny M A (checkBuiltinCall newId ⟨.ref C :: rest, kw⟩) Q E ⟨h, g, d, t, os⟩ := by
  have hB : List.contains (Value.ref C :: bm) (Value.type B) = true := by
    rw [List.contains_cons, hb, F.hasB, Bool.or_true]
  unfold checkBuiltinCall
  simp only [F.newKind, F.newSplit, F.newRow]
  rw [if_pos (by decide)]
  refine wpAny_bind (wpAny_bind (wpAny_loadPart_at hC ?_))
  refine wpAny_pure ?_
  refine wpAny_ite_false (by rfl) ?_
  refine wpAny_bind (wpAny_isSubtype_exc hC ?_)
  rw [hB]
  refine wpAny_ite_false (by rfl) ?_
  refine wpAny_bind (wpAny_staticBase_exc hC ?_)
  refine wpAny_bind (wpAny_madeBy_exc hC ?_)
  simp only [bne_self_eq_false, Bool.false_eq_true, if_false]
  have nst : (B == "*") = false := by have := F.noStar; simpa using this
  unfold Bind.checkArgs
  simp only [Bind.printed, F.noStar, nst, Bool.false_and, if_false, if_true, Bool.false_eq_true, pure_bind, Bind.check]
  exact wpAny_onRaise (wpAny_pure hQ)

theorem enew {prog : Program} {w : World} {A : Around} {R : Result → Shared → Prop} {h : Heap} {g : Array GenState}
    {d : Drawn} {t : Nat} {os : OsState} {nm q : Str} {C N : Addr} {bs bm bmB : List Value} {hdct : Bool} {sn : List Str}
    {sub : List Value} {ab : Bool} {col : Option Bool} {dd : Option Addr} {k0 k1 k2 k3 k5 : Option Value}
    {B newId initId : String} (F : ExcBaseFacts B newId initId bmB)
    (hb : ∀ X : String, bm.contains (Value.type X) = bmB.contains (Value.type X))
    {rest : List Value} {kw : List (Str × Value)}
    (hC : h.get? C = some (excClassObj nm q C N bs bm hdct sn sub ab col dd k0 k1 k2 k3 k5 newId))
    (hR : R (.ok (.ret (.ref (h.objs.size + 1))))
      ⟨(h.push (W.kdv_tup rest)).push (HandSPX.excO C h.objs.size), g, d, t, os⟩)
    (hl : rest.length ≤ sizeLine) :
    codeAny (model prog w) A (.builtin newId ⟨.ref C :: rest, kw⟩) R ⟨h, g, d, t, os⟩ := by
  have hB : List.contains (Value.ref C :: bm) (Value.type B) = true := by
    rw [List.contains_cons, hb, F.hasB, Bool.or_true]
  have hA : List.contains (Value.ref C :: bm) (Value.type "AttributeError") = false := by
    rw [List.contains_cons, hb, F.noAttr]; rfl
  have hN : List.contains (Value.ref C :: bm) (Value.type "NameError") = false := by
    rw [List.contains_cons, hb, F.noName]; rfl
  refine codeAny_builtinAt F.entry ?_
  unfold Builtin.«BaseException.__new__»
  refine wpAt_bind ?_
  refine wpAt_bind (wpAt_stack fun p below => ?_)
  refine wpAt_of_wpAny ?_
  refine wpAny_ite_true (by rw [F.ends]; rfl) ?_
  refine wpAny_pure ?_
  rw [F.owner]
  refine wpAt_of_wpAny ?_
  refine wpAny_bind (wpAny_bind (wpAny_loadPart_at hC (wpAny_pure ?_)))
  refine wpAny_ite_false (by rfl) ?_
  refine wpAny_bind (wpAny_isSubtype_exc hC ?_)
  rw [hB]
  refine wpAny_ite_false (by rfl) ?_
  refine wpAny_bind (wpAny_madeHere_exc F.canon hC ?_)
  refine wpAny_bind (wpAny_bind (wpAny_isSubtype_exc hC ?_))
  rw [hA]
  refine wpAny_ite_false (by rfl) ?_
  refine wpAny_bind (wpAny_isSubtype_exc hC ?_)
  rw [hN]
  refine wpAny_ite_false (by rfl) ?_
  refine wpAny_pure ?_
  unfold newTuple newObj
  refine wpAny_bind (wpAny_ite_false (by
    rw [List.size_toArray]; exact decide_eq_false (Nat.not_lt.mpr hl)) ?_)
  unfold newObjAsIs
  refine wpAny_bind (wpAny_alloc' ?_)
  refine wpAny_pure ?_
  refine wpAny_bind (wpAny_ite_false (by
    show decide (6 > sizeLine + 2) = false
    rw [sizeLine_eq]; rfl) ?_)
  refine wpAny_bind (wpAny_alloc' ?_)
  refine wpAny_bind (wpAny_bind (wpAny_load' (Heap.get?_push_of_some _ (Heap.get?_push_of_some _ hC)) (wpAny_pure ?_)))
  refine wpAny_ite_false (by rfl) ?_
  refine wpAny_pure ?_
  refine wpAny_pure ?_
  rw [Heap.size_push]
  exact hR

theorem etype {prog : Program} {w : World} {A A' : Around} {R : Result → Shared → Prop} {h : Heap} {g : Array GenState}
    {d : Drawn} {t : Nat} {os : OsState} {nm q : Str} {C N : Addr} {bs bm bmB : List Value} {hdct : Bool} {sn : List Str}
    {sub : List Value} {ab : Bool} {col : Option Bool} {dd : Option Addr} {k0 k1 k2 k3 k5 : Option Value}
    {B newId initId : String} (F : ExcBaseFacts B newId initId bmB)
    (hb : ∀ X : String, bm.contains (Value.type X) = bmB.contains (Value.type X))
    {rest : List Value} {kw : List (Str × Value)} {fI : Addr}
    (hC : h.get? C = some (excClassObj nm q C N bs bm hdct sn sub ab col dd k0 k1 k2 k3 k5 newId))
    (hi : W.Looks (model prog w) h (typeLookup (.ref C) (Str.ofString "__init__")) (some (.ref fI)))
    (hs : ∀ self : Value, W.Looks (model prog w) h (bindSpecial (.ref fI) self) (.ref fI, [self]))
    (hl : rest.length ≤ sizeLine)
    (hR : codeAny (model prog w) A
      (.call (.ref fI) ⟨.ref (h.objs.size + 1) :: rest, kw⟩) (W.InitBack (h.objs.size + 1) R)
      ⟨(h.push (W.kdv_tup rest)).push (HandSPX.excO C h.objs.size), g, d, t, os⟩) :
    wpAny (model prog w) A (Builtin.«type.__call__» ⟨.ref C :: rest, kw⟩)
      (fun fin s' => match fin with
        | Fin.done f => R (.ok f) s'
        | Fin.again c' => c'.quiet = true ∧ codeAny (model prog w) A' c' R s')
      (fun e s' => R (.error e) s') ⟨h, g, d, t, os⟩ := by
  unfold Builtin.«type.__call__»
  refine wpAny_ite_false (by rfl) ?_
  dsimp only
  refine wpAny_bind ?_
  unfold mroOf classData
  refine wpAny_bind (wpAny_bind (wpAny_load' hC (wpAny_pure (wpAny_pure ?_))))
  refine wpAny_ite_false (by rfl) ?_
  refine wpAny_bind (wpAny_madeBy_exc hC ?_)
  dsimp only
  refine wpAny_bind (wpAny_pure ?_)
  refine wpAny_bind (wpAny_holding (wpAny_call ?_))
  refine codeAny_call_builtin_code (Code.quiet_builtin _ F.quiet) (eck F hb hC ?_)
  refine enew F hb hC ?_ hl
  have keep : ∀ (b : Addr) (o : Obj), h.get? b = some o →
      ((h.push (W.kdv_tup rest)).push (HandSPX.excO C h.objs.size)).get? b = some o :=
    fun b o hbo => Heap.get?_push_of_some _ (Heap.get?_push_of_some _ hbo)
  have atE : ((h.push (W.kdv_tup rest)).push (HandSPX.excO C h.objs.size)).get? (h.objs.size + 1)
      = some (HandSPX.excO C h.objs.size) :=
    Heap.get?_push_at (by rw [Heap.size_push]) rfl
  have hC2 := keep _ _ hC
  dsimp only
  unfold isInstance
  refine wpAny_bind (wpAny_bind ?_)
  unfold typeOf
  refine wpAny_bind (wpAny_loadPart_at atE (wpAny_pure ?_))
  refine wpAny_isSubtype_exc hC2 ?_
  have cC : List.contains (Value.ref C :: bm) (Value.ref C) = true := by
    rw [List.contains_cons, beq_self_eq_true, Bool.true_or]
  rw [cC]
  refine wpAny_ite_false (by rfl) ?_
  unfold callSpecial? specialOf typeOf
  refine wpAny_bind (wpAny_holding (wpAny_bind (wpAny_bind (wpAny_bind (wpAny_loadPart_at atE (wpAny_pure ?_))))))
  refine hi _ _ _ _ keep ?_
  refine wpAny_holding (wpAny_bind (hs _ _ _ _ _ keep ?_))
  refine wpAny_bind (wpAny_call (codeAny_mono hR ?_))
  intro r s' hr
  unfold W.InitBack at hr
  match r, hr with
  | .ok (.ret v), hr =>
    obtain ⟨rfl, hr⟩ := hr
    refine wpAny_pure ?_
    refine wpAny_ite_false (by rfl) ?_
    exact wpAny_pure hr
  | .error e, hr => exact hr

theorem qTC : ("type.__call__" : String).startsWith "lifetime." = false := by decide +kernel

theorem ecall {prog : Program} {w : World} {A : Around} {R : Result → Shared → Prop} {h : Heap} {g : Array GenState}
    {d : Drawn} {t : Nat} {os : OsState} {nm q : Str} {C N : Addr} {bs bm bmB : List Value} {hdct : Bool} {sn : List Str}
    {sub : List Value} {ab : Bool} {col : Option Bool} {dd : Option Addr} {k0 k1 k2 k3 k5 : Option Value}
    {B newId initId : String} (F : ExcBaseFacts B newId initId bmB)
    (hb : ∀ X : String, bm.contains (Value.type X) = bmB.contains (Value.type X))
    {rest : List Value} {kw : List (Str × Value)} {fI : Addr}
    (hC : h.get? C = some (excClassObj nm q C N bs bm hdct sn sub ab col dd k0 k1 k2 k3 k5 newId))
    (hi : W.Looks (model prog w) h (typeLookup (.ref C) (Str.ofString "__init__")) (some (.ref fI)))
    (hs : ∀ self : Value, W.Looks (model prog w) h (bindSpecial (.ref fI) self) (.ref fI, [self]))
    (hl : rest.length ≤ sizeLine)
    (hR : codeAny (model prog w) (A.under (.builtin "type.__call__" ⟨.ref C :: rest, kw⟩))
      (.call (.ref fI) ⟨.ref (h.objs.size + 1) :: rest, kw⟩) (W.InitBack (h.objs.size + 1) R)
      ⟨(h.push (W.kdv_tup rest)).push (HandSPX.excO C h.objs.size), g, d, t, os⟩) :
    codeAny (model prog w) A (.call (.ref C) ⟨rest, kw⟩) R ⟨h, g, d, t, os⟩ := by
  have hB : List.contains (Value.ref C :: bm) (Value.type B) = true := by
    rw [List.contains_cons, hb, F.hasB, Bool.or_true]
  refine codeAny_of_tree ?_
  show wpAny (model prog w) _ (callAny (.ref C) ⟨rest, kw⟩) _ _ _
  unfold callAny
  refine wpAny_bind (wpAny_load' hC ?_)
  show wpAny (model prog w) _ (callAny.viaDunder (.ref C) ⟨rest, kw⟩) _ _ _
  unfold callAny.viaDunder
  refine wpAny_bind (wpAny_specialOf (T := "type") ⟨_, hC, rfl⟩ tc_lookup ?_)
  refine wpAny_bind (wpAny_of_eq (tc_bind _) ?_)
  have pc : callAny.plainCallee (.builtin "type.__call__") = pure true := by
    unfold callAny.plainCallee
    rfl
  refine wpAny_bind (wpAny_of_eq pc ?_)
  refine wpAny_ite_true rfl ?_
  refine wpAny_pure ?_
  refine ⟨rfl, ?_⟩
  refine codeAny_call_builtin_at (Code.quiet_builtin _ qTC) entry_typeCall ?_
  have ck : ∀ (A' : Around) (E : Value → Shared → Prop) (Q : Unit → Shared → Prop), Q () ⟨h, g, d, t, os⟩ →
      wpAny (model prog w) A' (checkBuiltinCall "type.__call__" ⟨.ref C :: rest, kw⟩) Q E ⟨h, g, d, t, os⟩ := by
    intro A' E Q hQ
    have lk : W.Looks (model prog w) h (isInstance (.ref C) (.type "type")) true := by
      intro A Q E s hk hq
      obtain ⟨h2, g2, d2, t2, os2⟩ := s
      exact wpAny_isInstance (T := "type") (U := "type") (b := true) ⟨_, hk _ _ hC, rfl⟩ tc_sub hq
    have := @W.check_slot (model prog w) A' E ⟨h, g, d, t, os⟩ "type.__call__" "type" "__call__" (.ref C) rest kw Q
    exact this tc_kind tc_split lk (W.tc_args _ _ _) hQ
  have go := etype (A' := A) F hb hC hi hs hl hR
  exact ck _ _ _ go
end Mf
namespace Mf
open PySem L2
theorem kBG : builtinKind "BaseException.__getattribute__" = some Manifest.AttrKind.slot := by decide +kernel
theorem sBG : splitId "BaseException.__getattribute__" = some ("BaseException", "__getattribute__") := by decide +kernel
theorem kin_cls {prog : Program} {w : World} {A : Around} {E : Value → Shared → Prop} {s : Shared}
    {K : W.Frag} {x D : Addr} {ox od : Obj} {Q : Option Value → Shared → Prop} (C : ExcC K D)
    (X : K.In s.heap) (I : W.InstAt s.heap x ox D (some od))
    (h : Q (some (.ref D)) { heap := s.heap, gens := s.gens, drawn := s.drawn, toks := s.toks + 1, os := s.os }) :
    wpAny (model prog w) A (getAttr? (.ref x) (Str.ofString "__class__")) Q E s := by
  have hc : (W.clsIn K D).isSome = true := by
    obtain ⟨cd, hc, -⟩ := W.any_some C.hd
    rw [hc]; rfl
  have hf := W.findObj_data (od := od) hc C.ha C.hn C.ht
  obtain ⟨hp, g, d, t, os⟩ := s
  have L0 := W.InstAt.type I (M := model prog w)
  have L1 := W.looks_findIn X C.hg (M := model prog w)
  have L2 := W.looks_findIn X C.hk (M := model prog w)
  have L3 := W.looks_find X I hf (M := model prog w)
  have sub : W.Looks (model prog w) hp (isInstance (.ref x) (.type "BaseException")) true :=
    W.Looks.andThen L0 (W.looks_subIn X C.hs)
  unfold getAttr?
  refine wpAny_bind (wpAny_mkText ?_)
  unfold getAttrBy?
  refine wpAny_bind (wpAny_attempt (wpAny_holding ?_))
  refine wpAny_bind (L0.at (wpAny_bind (L1.at ?_)))
  dsimp only
  have e1 : (onTheHeap (.ref D) && (Value.builtin "BaseException.__getattribute__" == Value.builtin "object.__getattribute__")) = false := by
    rw [Bool.and_eq_false_iff]; exact .inr (by decide)
  rw [e1, if_neg Bool.false_ne_true]
  unfold getAttrByItsOwn hookBefore
  refine wpAny_bind ?_
  rw [if_pos (show onTheHeap (.ref D) = true from rfl)]
  refine L2.at ?_
  refine wpAny_bind (wpAny_attempt (wpAny_holding ?_))
  unfold callGetattribute
  rw [Bool.false_and, if_neg Bool.false_ne_true]
  unfold boundAndCalled
  refine wpAny_bind (wpAny_of_eq (F.excAttr_ValueError.ga.bind (.ref x)) ?_)
  refine wpAny_call ?_
  refine codeAny_call_builtin F.excAttr_ValueError.ga.plain F.entry_bexc_ga ?_
  have ck : ∀ (A' : Around) (E' : Value → Shared → Prop) (Q' : Unit → Shared → Prop) (s' : Shared), s'.heap = hp → Q' () s' →
      wpAny (model prog w) A' (checkBuiltinCall "BaseException.__getattribute__" ⟨[.ref x, .str (Str.ofString "__class__") t], []⟩) Q' E' s' := by
    intro A' E' Q' s' hh hq
    subst hh
    have := @W.check_slot (model prog w) A' E' s' "BaseException.__getattribute__" "BaseException" "__getattribute__" (.ref x) [.str (Str.ofString "__class__") t] [] Q'
    exact this kBG sBG sub (F.args_bexc_ga _ _) hq
  refine ck _ _ _ _ rfl ?_
  unfold Builtin.«object.__getattribute__»
  refine wpAny_bind (wpAny_of_eq rfl ?_)
  show wpAny (model prog w) _ (do
      let name ← Builtin.ObjectAttr.attrName (.str (Str.ofString "__class__") t)
      _) _ _ _
  refine wpAny_bind (wpAny_pure ?_)
  refine wpAny_bind (L0.at ?_)
  refine wpAny_bind (L3.at ?_)
  dsimp only
  unfold Builtin.ObjectAttr.bindTo
  refine wpAny_bind (wpAny_holding (wpAny_call (W.class_get X I C.hm ?_)))
  refine wpAny_pure ?_
  dsimp only
  rw [W.handedOut_of rfl]
  exact wpAny_pure (wpAny_pure h)
end Mf
namespace Mf
open PySem L2

theorem cls_look {K : W.Frag} {D : Addr} (h : W.hasDictIn K D = true) :
    ∃ c d cd sl, K.lookup D = some ⟨c, d, .cls cd, sl⟩ := by
  obtain ⟨cd, hc, -⟩ := W.any_some h
  unfold W.clsIn at hc
  split at hc
  · rename_i c d cd sl e; exact ⟨_, _, _, _, e⟩
  · exact absurd hc (by simp)

theorem kit_exo {K : W.Frag} {x D : Addr} {ox od : Obj} (C : ExcC K D) :
    W.KitX K (.ref x) (.ref D) fun h => W.InstAt h x ox D (some od) where
  ty := fun _ _ _ I => W.InstAt.type I
  it := by
    intro M h X _ A Q E s k q
    obtain ⟨c, d, cd, sl, e⟩ := cls_look C.hd
    exact wpAny_bind (wpAny_loadPart (k D _ (X D _ e)) (wpAny_pure q))
  ne := by
    intro h tp dd its n sl X ht
    obtain ⟨c, d, cd, sl', e⟩ := cls_look C.hd
    refine Bool.eq_false_iff.mpr fun q => ?_
    have e2 := Value.ref.inj (beq_iff_eq.mp q)
    subst e2
    have := (X D _ e).symm.trans ht
    simp at this
  ca := fun X I k => kin_cls C X I k

theorem inst_exo {P : Program} {w : World} {H : Hp} {h : Heap} {a D dx : Addr} {fs : List (Str × V)} (O : HOk P w H h)
    (ha : H a = some (exo a D (some dx))) (hd : H dx = some (exd dx fs)) :
    ∃ ox od, W.InstAt h a ox D (some od) ∧ ∀ f v, fs.lookup f = some v → ∃ u, W.lookIn f od = some (some u) ∧ RelV v u := by
  obtain ⟨⟨t1, e1⟩, -⟩ := O a _ ha
  obtain ⟨⟨mA, n1, r1⟩, -⟩ := O dx _ hd
  obtain ⟨od, ho, hl⟩ := lookIn_ns n1
  refine ⟨_, od, ⟨e1, rfl, rfl, ho⟩, fun f v hf => ?_⟩
  have r := r1 f
  rw [hf] at r
  obtain ⟨u, hu, ru⟩ := RelO.some_of r
  exact ⟨u, by rw [hl, hu], ru⟩

/-- an attribute of an error that lies in a variable -/
def tXa (K : W.Frag) (n : Str) (te : TE) : TE := fun σ H Q => te σ H fun x H1 =>
  ∃ (a D dx : Addr) (fs : List (Str × V)) (v : V), x = .ref a ∧ H1 a = some (exo a D (some dx)) ∧ H1 dx = some (exd dx fs) ∧
    XfC K D ∧ W.findIn K (.ref D) n = some none ∧ fs.lookup n = some v ∧ Q v H1

theorem pe_xa {X : Cx} {e : PySem.Expr} {te : TE} {pos : Pos} {n : Str} (he : PE X e te)
    (hb : attributeBase e n X.env (eval e X.env) = eval e X.env := by rfl) : PE X (.Attribute e n pos) (tXa X.K n te) := by
  refine ⟨fun pins s σ H Q I h => attr_of hb (thn (he.run pins s σ H _ I h) ?_)⟩
  rintro u s1 ⟨x, H1, I1, rx, a, D, dx, fs, v, rfl, ha, hd, T, hno, hf, q⟩
  obtain ⟨ox, od, J, hl⟩ := inst_exo I1.hok ha hd
  obtain ⟨u', hu, ru⟩ := hl _ _ hf
  have ex : u = .ref a := rx
  subst ex
  exact HandSPX.exc_get I1.kIn J T.ga T.gg T.exC (W.findObj_own T.hdC hno rfl hu) (handed_of ru) ⟨v, H1, I1.tok _, ru, q⟩

/-- isinstance of such an error -/
def rIsO (K : W.Frag) (xs : List V) (H : Hp) (Q : VK) : Prop :=
  ∃ (a D dx : Addr) (fs : List (Str × V)) (c : V) (cv : Value) (b : Bool), xs = [.ref a, c] ∧ H a = some (exo a D (some dx)) ∧
    H dx = some (exd dx fs) ∧ ExcC K D ∧ (∀ u, RelV c u → u = cv) ∧ W.kitOne K (.ref D) cv = some b ∧ Q (.bl b) H

theorem call_isO {X : Cx} : CallR X (.builtin "isinstance") (rIsO X.K) := by
  rintro pins s σ H xs us Q I r ⟨a, D, dx, fs, c, cv, b, rfl, ha, hd, C, hcv, hk, q⟩
  match us, r with
  | [_, _], .cons rx (.cons rc .nil) =>
    obtain ⟨ox, od, J, -⟩ := inst_exo I.hok ha hd
    have ex : _ = Value.ref a := rx
    subst ex
    rw [hcv _ rc]
    exact W.kia_one (kit_exo C) I.kIn J hk (by simp) fun tk => ⟨.bl b, H, I.tok _, rfl, q⟩
end Mf
namespace Mf
open PySem L2

/-- an error class of the program: its first method by its promise, by place and by the keywords ks -/
structure CalE (P : Program) (w : World) (K : W.Frag) (mg : Str → Option Value) (base : Heap) (CX : CXT) (k : Nat) (x : Str) (C : Addr)
    (ps ks : List Str) (g : List Value → List Value → List Value) (gV : List V → List V → List V) (sp : Sp) : Prop where
  ex : ∃ (f : Addr) (fd : FuncData), OexC K C ∧ W.findIn K (.ref C) "__init__" = some (some (.ref f)) ∧
    W.typeIn K (.ref f) = some (.type "function") ∧ FnOk P w K mg base CX k f fd ps sp ∧ mg x = some (.ref C) ∧
    Binds K fd ps [] ∧ KBn K fd ps 1 ks g gV

theorem run_exo {X : Cx} {CX : CXT} {k : Nat} {fI C : Addr} {fd : FuncData} {ps : List Str} {sp : Sp} {E : XK}
    {pins : List (Addr × Obj)} {σ : St} {H : Hp} {s : Shared} {Q : VK} {us : List Value} {kw : List (Str × Value)}
    {gu : Value → List Value} {gv : V → List V} (T : OexC X.K C)
    (iC : W.findIn X.K (.ref C) "__init__" = some (some (.ref fI))) (tI : W.typeIn X.K (.ref fI) = some (.type "function"))
    (F1 : FnOk X.prog X.w X.K X.mg X.base CX k fI fd ps sp) (hr : Room (k + 1) X.A) (hx : Passes CX X E)
    (I : L2.Inv X pins σ H s)
    (hb : ∀ (s : Shared) (e : Value), X.K.In s.heap → BindsTo s fd ⟨e :: us, kw⟩ (ps.zip (gu e)))
    (hv : ∀ a, Vals (gv (.ref a)) (gu (.ref a))) (hl : us.length ≤ 1000)
    (h : ∀ a, H a = none → sp (gv (.ref a)) (upd H a (exo a C none)) (fun v H2 => v = .non ∧ Q (.ref a) H2) E) :
    wpAny (model X.prog X.w) X.A (call (.ref C) us kw) (EP X pins σ Q) X.xe s := by
  obtain ⟨nm, q, N, bs, bm, sn, sub, ab, col, dd, k0, k1, k2, k3, k5, hC, hbm⟩ := T.cls
  obtain ⟨hp, g, d, t, os⟩ := s
  have hsz := Nat.le_succ hp.objs.size
  have hq := h (hp.objs.size + 1) (HOk.fresh I.hok hsz)
  have kk : ∀ (b : Addr) (o : Obj), hp.get? b = some o → ((hp.push (W.kdv_tup us)).push (HandSPX.excO C hp.objs.size)).get? b = some o :=
    fun b o e => Heap.get?_push_of_some _ (Heap.get?_push_of_some _ e)
  have hget : ((hp.push (W.kdv_tup us)).push (HandSPX.excO C hp.objs.size)).get? (hp.objs.size + 1) = some (HandSPX.excO C hp.objs.size) :=
    Heap.get?_push_at (by rw [Heap.size_push]) rfl
  have I2 := I.laid (t' := t) kk hsz (exo_ok (d := none) (C := C) hget)
  refine wpAny_call (ecall F.excBase_ValueError ?_ (I.kIn C _ hC) (W.looks_findIn I.kIn iC) (fun self => W.bind_fn I.kIn self tI) ?_ ?_)
  · intro X; exact HandSPX.refsVE_contains X bm hbm
  · rw [sizeLine_eq]; omega
  · refine codeAny_mono (F1.run _ X.stack _ _ _ (gu (.ref (hp.objs.size + 1))) (gv (.ref (hp.objs.size + 1)))
      (fun v H2 => v = .non ∧ Q (.ref (hp.objs.size + 1)) H2) E (Room.make hr C us kw) (I2.env0.make C us kw) (hb _ _ I2.kIn) (hv _) hq) ?_
    intro r s' hr'
    match r, hr' with
    | .error e, hr' => exact hx _ _ _ _ _ _ I2 hr'
    | .ok (.ret v), hr' =>
      obtain ⟨v2, H2, I3, rv, ev, q3⟩ := I2.after hr'
      subst ev
      exact ⟨rv, .ref _, H2, I3, rfl, q3⟩
end Mf
namespace Mf
open PySem L2
section
variable {X : Cx} {CX : CXT} {k : Nat} {x : Str} {C : Addr} {ps ks : List Str} {g : List Value → List Value → List Value} {gV : List V → List V → List V} {sp : Sp} {E : XK} {e : Expr} {es : List Expr} {kws : List Keyword} {t tk : TA} {p pos : Pos}

/-- an error made by place -/
def tEx (C : Addr) (sp : Sp) (E : XK) (t : TA) : TE := fun σ H Q => t σ H fun vs H1 =>
  vs.length ≤ 1000 ∧ ∀ a, H1 a = none → sp (.ref a :: vs) (upd H1 a (exo a C none)) (fun v H2 => v = .non ∧ Q (.ref a) H2) E
/-- an error made by keywords -/
def tExK (C : Addr) (m : Nat) (sp : Sp) (gV : List V → List V → List V) (E : XK) (t : TA) : TE := fun σ H Q => t σ H fun zs H1 =>
  zs.length = m ∧ ∀ a, H1 a = none → sp (gV [.ref a] zs) (upd H1 a (exo a C none)) (fun v H2 => v = .non ∧ Q (.ref a) H2) E

theorem pe_exP (c : CalE X.prog X.w X.K X.mg X.base CX k x C ps ks g gV sp) (hr : Room (k + 1) X.A) (hx : Passes CX X E)
    (ha : PA X (e :: es) t) (hg : Gl X x := by rfl) (hdb : (x == ("__debug__" : Str)) = false := by decide)
    (he : starEach (e :: es) X.env = (false, eval e X.env) :: starEach es X.env := by rfl)
    (hpl : (backTo pos (starEach es X.env)).any (·.1) = false := by rfl) :
    PE X (.Call (.Name x p) (e :: es) [] pos) (tEx C sp E t) := by
  obtain ⟨f, fd, T, iC, tI, F, hm, b, -⟩ := c.ex
  refine ⟨fun pins s σ H Q I h => wpAny_Call_Name_kw (ld_glob I hg hm (W.callWith_K I.ok.mod.kin T.kC ?_ he hpl) hdb)⟩
  refine thn (ha.run pos pins s σ H _ I h) ?_
  rintro us s1 ⟨vs, H1, I1, r1, hz, q1⟩
  refine ⟨I1.kIn, run_exo (gu := fun e => e :: us) (gv := fun a => a :: vs) T iC tI F hr hx I1 ?_ (fun a => .cons rfl r1) ?_ q1⟩
  · intro s e hK
    have l := F.len _ _ _ _ (q1 _ (I1.hok.fresh (Nat.le_refl _)))
    have hb := b s (e :: us) hK (by rw [← l, List.append_nil, List.length_cons, List.length_cons, r1.length])
    rw [List.append_nil] at hb; exact hb
  · rw [List.nil_append, ← r1.length]; exact hz

theorem pe_exK (c : CalE X.prog X.w X.K X.mg X.base CX k x C ps ks g gV sp) (hr : Room (k + 1) X.A) (hx : Passes CX X E)
    (ha : PK X kws tk) (hks : ks.length ≤ 1000)
    (h1 : (backToKw pos (keywordEach kws X.env)).all (fun x => x.1.isSome) = true := by rfl)
    (h2 : (backToKw pos (keywordEach kws X.env)).filterMap (fun x => x.1) = ks := by rfl)
    (hg : Gl X x := by rfl) (hdb : (x == ("__debug__" : Str)) = false := by decide)
    (h3 : ((backTo pos (starEach [] X.env)).any (·.1) || (backToKw pos (keywordEach kws X.env)).any (fun x => x.1.isNone)) = false := by rfl) :
    PE X (.Call (.Name x p) [] kws pos) (tExK C ks.length sp gV E tk) := by
  obtain ⟨f, fd, T, iC, tI, F, hm, -, b⟩ := c.ex
  refine ⟨fun pins s σ H Q I h => wpAny_Call_Name_kw (ld_glob I hg hm (W.callWith_KW0 I.ok.mod.kin T.kC h1 ?_ h3) hdb)⟩
  refine thn (ha.run pos pins s σ H _ I h) ?_
  rintro ws s1 ⟨zs, H1, I1, r1, hz, q1⟩
  rw [h2]
  refine ⟨I1.kIn, run_exo (gu := fun e => g [e] ws) (gv := fun a => gV [a] zs) T iC tI F hr hx I1 ?_ (fun a => b.rel (.cons rfl .nil) r1) (Nat.zero_le _) q1⟩
  intro s e hK
  exact b.to s [e] ws hK rfl (by rw [← r1.length]; exact hz)
end
end Mf
namespace Mf
open PySem L2
def top (i : Nat) : Stmt := PySem.Challenge.pw_midfall_k49_errors_made.main.body.getD i (.Pass ⟨0, 0, 0, 0⟩)
abbrev sSource : Stmt := top 11
abbrev sDraw : Stmt := top 12
section
variable {P : Program} {w : World} {K : PySem.W.Frag} {mg : Str → Option Value} {base : Heap}

/-! ### _law_source -/
def spSource (K : PySem.W.Frag) : Sp := fun vs H Q _ => ∃ (a : Addr) (ns : List Int), vs = [.ref a] ∧ SqL K H a (ns.map V.int) ∧ ns.length ≤ 63 ∧ ∀ p H', H p = none → Same H H' → Src H' p 1000000000 → Q (.ref p) H'
theorem scSource : FnScope ["_law_script", "_law_great", "_law_seed", "_law_k", "_law_cell"] ["_law_script"] (defScope sSource) := ⟨rfl, rfl, rfl, by decide +kernel, rfl, by decide +kernel, by decide +kernel⟩
theorem ok_source {f : Addr} {fd : FuncData} (F : Fun K "_law_source" "_law_source" sSource f fd) (mI : mg "int" = none) (mE : mg "enumerate" = none) : FnOk P w K mg base CX0 1 f fd ["_law_script"] (spSource K) := by
  refine F.ok scSource (fun vs H Q E h => ?_) (fun cdv A outer s H vs Q E hr h => ?_)
  · obtain ⟨a, ns, rfl, _⟩ := h
    rfl
  · obtain ⟨a, ns, rfl, hs, hl, k⟩ := h
    refine ⟨_, pss_cons (ps_set (i := 1) scSource.nd rfl (.inl rfl) pe_int) (pss_cons (ps_set (i := 2) scSource.nd rfl (.inl rfl) pe_int)
      (pss_cons (ps_for PassesOwn.never rfl (pi_enum (by rfl) mE (pa_cons (pv 0) pa_nil)) (pg_tup rfl (pgs_cons (pg_name (i := 3) scSource.nd rfl (.inl rfl)) (pgs_cons (pg_name (i := 4) scSource.nd rfl (.inl rfl)) pgs_nil)))
        (C8.pss_cut (ps_if (PW.pt (pw_and (pt_cmpR op_eq (pv 1) pe_int (nomark _)) (pw_and1 (pt_cmpR op_ge (pv 4) (pe_op op_pow pe_int pe_int) (nomark _))))) (pss_one (ps_set (i := 1) scSource.nd rfl (.inl rfl) (pv 4))) pss_nil)
        (pss_one (ps_set (i := 2) scSource.nd rfl (.inl rfl) (pe_op op_mod (pe_callTy call_int1 (by rfl) mI (by decide +kernel) (pa_cons (pe_op op_add (pe_op op_mul (pe_op op_add (pv 2) (pe_op op_mod (pe_callTy call_int1 (by rfl) mI (by decide +kernel) (pa_cons (pv 4) pa_nil)) pe_int)) pe_int) (pv 3)) pa_nil)) pe_int)))))
      (pss_one (ps_ret (pe_lst (pa_cons (pv 1) (pa_cons (pv 2) (pa_cons pe_int pa_nil)))))))), ?_⟩
    refine ⟨_, rfl, a, _, rfl, hs, ?_⟩
    refine for_it walk_enum (fun i σ H' => ∃ (g s : Int) (vk vc : Option V), σ = [some (.ref a), some (.int g), some (.int s), vk, vc] ∧ 0 ≤ s ∧ s < 2147483647 ∧ Same H H') ⟨0, 104729, none, none, rfl, by decide, by decide, Same.refl H⟩ (fun i σ H' _ h => h.choose_spec.choose_spec.choose_spec.choose_spec.2.2.2.seq hs) ?_ ?_
    · rintro i x σ H1 H2 hi ⟨g, s, vk, vc, rfl, s0, s1, sm⟩ ⟨T, x1, y, rfl, hT, rfl, e1, e2⟩
      obtain rfl : x1 = .int (i : Nat) := (Option.some.inj e1).symm
      have e2 : (ns.map V.int)[i]? = some y := e2
      rw [List.getElem?_map] at e2
      obtain ⟨m, _, rfl⟩ := Option.map_eq_some_iff.mp e2
      refine ⟨T, _, rfl, .of upd_same, rfl, _, _, rfl, _, _, rfl, rfl, ?_⟩
      refine ⟨fun σ' H' => ∃ g' : Int, σ' = [some (.ref a), some (.int g'), some (.int s), some (.int (i : Nat)), some (.int m)] ∧ H' = upd H1 T (.tup [.int (i : Nat), .int m]), ?_, ?_⟩
      · refine ⟨_, rfl, rfl, _, rfl, ite2 (fun _ => ?_) fun _ => ?_⟩
        · refine ⟨_, rfl, _, _, rfl, rfl, ⟨by decide, by decide, by decide⟩, _, _, rfl, rfl, _, rfl, ite2 (fun _ => ?_) fun _ => ?_⟩
          · exact ⟨_, rfl, m, rfl, rfl⟩
          · exact ⟨g, rfl, rfl⟩
        · exact iteF ⟨g, rfl, rfl⟩
      · rintro σ' H' ⟨g', rfl, rfl⟩
        refine ⟨_, rfl, _, rfl, .inl ⟨_, rfl, _, _, rfl, rfl, (by show (0 : Int) < 2147483629; decide), _, _, rfl, rfl, _, _, rfl, rfl, .inr ⟨(by show -(2 ^ 64) < (48271 : Int); decide), (by show (48271 : Int) < 2 ^ 64; decide)⟩, _, rfl, _, _, rfl, rfl, .inl ⟨_, rfl, _, _, rfl, rfl, (by show (0 : Int) < 2147483647; decide), ?_⟩⟩⟩
        exact ⟨_, _, _, _, rfl, Int.emod_nonneg _ (by decide), Int.emod_lt_of_pos _ (by decide), sm.trans (Same.new hT)⟩
    · rintro σ H1 ⟨g, s, vk, vc, rfl, s0, s1, sm⟩
      refine ⟨_, rfl, _, rfl, (by show 3 ≤ sizeLine; decide), fun p hp => ?_⟩
      exact k p _ (sm.free hp) (sm.trans (Same.new hp)) ⟨g, s, 0, upd_same, s0, s1, by decide, by decide⟩

/-! ### _law_draw -/
def spDraw : Sp := fun vs H Q _ => ∃ (a : Addr) (many : Int) (n : Nat), vs = [.ref a, .int many] ∧ 0 < many ∧ many.natAbs < 2 ^ 200 ∧ Src H a (n + 1) ∧ ∀ v H', 0 ≤ v → v < many → Kp a H H' → Src H' a n → Q (.int v) H'
theorem scDraw : FnScope ["_law_source_here", "_law_many", "_law_value", "_law_stirred"] ["_law_source_here", "_law_many"] (defScope sDraw) := ⟨rfl, rfl, rfl, by decide +kernel, rfl, by decide +kernel, by decide +kernel⟩
theorem ok_draw {f : Addr} {fd : FuncData} (F : Fun K "_law_draw" "_law_draw" sDraw f fd) (mI : mg "int" = none) : FnOk P w K mg base CX0 1 f fd ["_law_source_here", "_law_many"] spDraw := by
  refine F.ok scDraw (fun vs H Q E h => ?_) (fun cdv A outer s H vs Q E hr h => ?_)
  · obtain ⟨a, m, n, rfl, _⟩ := h
    rfl
  · obtain ⟨a, many, n, rfl, m0, mb, ⟨g, sd, c, ha, s0, s1, c0, c1⟩, k⟩ := h
    refine ⟨_, pss_cons (ps_if (pt_cmpR op_gt (pe_ix ix_list (pv 0) pe_int (fun _ _ => rfl)) pe_int (nomark _))
        (pss_cons (ps_set (i := 2) scDraw.nd rfl (.inl rfl) (pe_op op_mod (pe_callTy call_int1 (by rfl) mI (by decide +kernel) (pa_cons (pe_ix ix_list (pv 0) pe_int (fun _ _ => rfl)) pa_nil)) (pv 1)))
        (pss_cons (ps_asg (pe_op op_fdivW (pe_ix ix_list (pv 0) pe_int (fun _ _ => rfl)) (pv 1)) (pg_sub (pv 0) pe_int set_list))
        (pss_one (ps_ret (pv 2))))) pss_nil)
      (pss_cons (ps_asg (pe_op op_add (pe_ix ix_list (pv 0) pe_int (fun _ _ => rfl)) pe_int) (pg_sub (pv 0) pe_int set_list))
      (pss_cons (ps_set (i := 3) scDraw.nd rfl (.inl rfl) (pe_op op_mod (pe_callTy call_int1 (by rfl) mI (by decide +kernel) (pa_cons (pe_op op_pow (pe_op op_add (pe_ix ix_list (pv 0) pe_int (fun _ _ => rfl)) (pe_op op_mul pe_int (pe_ix ix_list (pv 0) pe_int (fun _ _ => rfl)))) pe_int) pa_nil)) pe_int))
      (pss_one (ps_ret (pe_op op_mod (pe_callTy call_int1 (by rfl) mI (by decide +kernel) (pa_cons (pe_op op_mod (pe_callTy call_int1 (by rfl) mI (by decide +kernel) (pa_cons (pe_op op_mul (pe_op op_add (pv 3) (pe_ix ix_list (pv 0) pe_int (fun _ _ => rfl))) pe_int) pa_nil)) pe_int) pa_nil)) (pv 1)))))), ?_⟩
    refine ⟨_, rfl, a, _, _, _, rfl, rfl, .of ha, rfl, _, _, rfl, rfl, _, rfl, ite2 (fun _ => ?_) fun _ => ?_⟩
    · refine ⟨_, rfl, a, _, _, _, rfl, rfl, .of ha, rfl, .inl ⟨_, rfl, _, rfl, _, _, rfl, rfl, m0, ?_⟩⟩
      refine ⟨_, rfl, a, _, _, _, rfl, rfl, .of ha, rfl, _, rfl, _, _, rfl, rfl, wide_div m0 mb (by decide) (by decide), _, rfl, a, _, _, 0, rfl, rfl, ha, rfl, _, rfl, ?_⟩
      exact k _ _ (Int.emod_nonneg _ (by omega)) (Int.emod_lt_of_pos _ m0) (Kp.refl.put) ⟨g / many, sd, c, upd_same, s0, s1, c0, by omega⟩
    · refine ⟨_, rfl, a, _, _, _, rfl, rfl, .of ha, rfl, _, _, rfl, rfl, _, rfl, a, _, _, 2, rfl, rfl, ha, rfl, ?_⟩
      have h2 : (upd H a (.lst [.int g, .int sd, .int (c + 1)])) a = some (.lst [.int g, .int sd, .int (c + 1)]) := upd_same
      refine ⟨_, rfl, a, _, _, _, rfl, rfl, .of h2, rfl, _, rfl, a, _, _, _, rfl, rfl, .of h2, rfl, _, _, rfl, rfl, .inl ⟨(by show -(2 ^ 64) < (7919 : Int); decide), (by show (7919 : Int) < 2 ^ 64; decide)⟩, _, _, rfl, rfl, _, _, rfl, rfl, ⟨by decide, by decide, ?_⟩, .inl ⟨_, rfl, _, _, rfl, rfl, (by show (0 : Int) < 2147483647; decide), ?_⟩⟩
      · show (sd + 7919 * (c + 1)).natAbs < 2 ^ 64
        omega
      · refine ⟨_, rfl, _, rfl, a, _, _, _, rfl, rfl, .of h2, rfl, _, _, rfl, rfl, _, _, rfl, rfl, .inr ⟨(by show -(2 ^ 64) < (40692 : Int); decide), (by show (40692 : Int) < 2 ^ 64; decide)⟩, .inl ⟨_, rfl, _, _, rfl, rfl, (by show (0 : Int) < 2147483629; decide), .inl ⟨_, rfl, _, rfl, _, _, rfl, rfl, m0, ?_⟩⟩⟩
        exact k _ _ (Int.emod_nonneg _ (by omega)) (Int.emod_lt_of_pos _ m0) (Kp.refl.put) ⟨g, sd, c + 1, h2, s0, s1, by omega, by omega⟩
end
end Mf
namespace Mf
open PySem L2
section
variable {P : Program} {w : World} {K : PySem.W.Frag} {mg : Str → Option Value} {base : Heap}
abbrev psD : List Str := ["_law_source_here", "_law_many"]

/-! ### a drawn object -/
def ObP (H : Hp) (v : V) : Prop := (∃ i : Int, v = .int i ∧ i.natAbs < 2 ^ 210) ∨ (∃ z, v = .str z ∧ PyData.strOk z = true) ∨ v = .non ∨
  (∃ t i z, v = .ref t ∧ H t = some (.tup [.int i, .str z]) ∧ i.natAbs < 2 ^ 210 ∧ PyData.strOk z = true) ∨ (∃ t, v = .ref t ∧ H t = some (.tup []))
theorem ObP.kp {H H' : Hp} {a : Addr} {v : V} {xs : List V} (x : ObP H v) (h : Kp a H H') (ha : H a = some (.lst xs)) : ObP H' v := by
  have ne : ∀ {t : Addr} {ys : List V}, H t = some (.tup ys) → t ≠ a := fun ht e => by rw [e, ha] at ht; simp at ht
  rcases x with x | x | x | ⟨t, i, z, rfl, ht, r⟩ | ⟨t, rfl, ht⟩
  · exact .inl x
  · exact .inr (.inl x)
  · exact .inr (.inr (.inl x))
  · exact .inr (.inr (.inr (.inl ⟨t, i, z, rfl, h _ _ (ne ht) ht, r⟩)))
  · exact .inr (.inr (.inr (.inr ⟨t, rfl, h _ _ (ne ht) ht⟩)))
theorem ObP.same {H H' : Hp} {v : V} (x : ObP H v) (h : Same H H') : ObP H' v := by
  rcases x with x | x | x | ⟨t, i, z, rfl, ht, r⟩ | ⟨t, rfl, ht⟩
  · exact .inl x
  · exact .inr (.inl x)
  · exact .inr (.inr (.inl x))
  · exact .inr (.inr (.inr (.inl ⟨t, i, z, rfl, h _ _ ht, r⟩)))
  · exact .inr (.inr (.inr (.inr ⟨t, rfl, h _ _ ht⟩)))
/-- what it is as data -/
def OneD (d : PyData) : Prop := PyData.eqv d d = true ∧ PyData.canLay0 d = true ∧ PyData.depth d ≤ 1
theorem ObP.dat {H : Hp} {v : V} (x : ObP H v) : ∃ d, Dp K H v d ∧ OneD d := by
  rcases x with ⟨i, rfl, _⟩ | ⟨z, rfl, hz⟩ | rfl | ⟨t, i, z, rfl, ht, _, hz⟩ | ⟨t, rfl, ht⟩
  · exact ⟨_, .int i, by show (i == i) = true; simp, rfl, Nat.zero_le _⟩
  · exact ⟨_, .str z, by show (z == z) = true; simp, hz, Nat.zero_le _⟩
  · exact ⟨_, .non, rfl, rfl, Nat.zero_le _⟩
  · refine ⟨_, .tup (.of ht) (.cons (.int i) (.cons (.str z) .nil)), ?_, ?_, Nat.le_refl 1⟩
    · show ((i == i) && ((z == z) && true)) = true
      simp
    · show (true && (PyData.strOk z && true)) = true
      rw [hz]; rfl
  · exact ⟨_, .tup (.of ht) .nil, rfl, rfl, Nat.le_refl 1⟩

def spObject (K : PySem.W.Frag) : Sp := fun vs H Q _ => ∃ (a : Addr) (n : Nat), vs = [.ref a] ∧ Src H a (n + 6) ∧
  ∀ v H', ObP H' v → Kp a H H' → Src H' a n → Q v H'
abbrev sObject : Stmt := top 13
theorem scObject : FnScope ["_law_source_here", "_law_digit", "_law_k"] ["_law_source_here"] (defScope sObject) := ⟨rfl, rfl, rfl, by decide +kernel, rfl, by decide +kernel, by decide +kernel⟩
theorem cut_ok {z : Str} (lo hi : Option Int) (h : PyData.strOk z = true) : PyData.strOk (cutS z lo hi) = true := by
  have h1 : z.cps.all (fun x => decide (x < 1114112)) = true := h
  rw [← Array.all_toList, List.all_eq_true] at h1
  show (cutS z lo hi).cps.all (fun x => decide (x < 1114112)) = true
  rw [← Array.all_toList, List.all_eq_true]
  intro c hc
  exact h1 c (List.mem_of_mem_drop (List.mem_of_mem_take hc))
theorem ok_object {f : Addr} {fd : FuncData} (F : Fun K "_law_object" "_law_object" sObject f fd) (c_draw : Cal P w K mg base CX0 1 "_law_draw" psD spDraw) (mRange : mg "range" = none) : FnOk P w K mg base CX0 2 f fd ["_law_source_here"] (spObject K) := by
  refine F.ok scObject (fun vs H Q E h => ?_) (fun cdv A outer s H vs Q E hr h => ?_)
  · obtain ⟨a, n, rfl, _⟩ := h
    rfl
  · obtain ⟨a, n, rfl, S, k⟩ := h
    have hr_draw : Room 1 (A.deeper (PyProof.Rows.envOfC "_law_object" (defScope sObject) s.heap.objs.size f cdv)) := hr
    refine ⟨_, (pss_cons (ps_set (i := 1) scObject.nd rfl (by first | exact Or.inl rfl | exact Or.inr rfl) (pe_cal c_draw hr_draw pass0 (pa_cons (pv 0) (pa_cons pe_int pa_nil))))
      (pss_cons (ps_if (pt_cmpR op_eq (pv 1) pe_int (nomark _))
        (pss_one (ps_ret (pe_op op_sub (pe_cal c_draw hr_draw pass0 (pa_cons (pv 0) (pa_cons (pe_op op_pow pe_int pe_int) pa_nil))) (pe_op op_mul pe_int (pe_op op_pow pe_int pe_int))))) pss_nil)
      (pss_cons (ps_if (pt_cmpR op_eq (pv 1) pe_int (nomark _))
        (pss_one (ps_ret (pe_join pe_str (pe_lc (own := [("_law_k", 2)]) (g := (gName 2)) (tt := tYes) rfl scObject.nd (pi_range1 (by rfl) mRange (pa_cons (pe_cal c_draw hr_draw pass0 (pa_cons (pv 0) (pa_cons pe_int pa_nil))) pa_nil)) (blkOk_by (own := [("_law_k", 2)]) (N := ["_law_source_here", "_law_digit", "_law_k"]) (sc := defScope sObject) (by decide +kernel)) (fun _ _ _ _ _ => (pg_name (i := 2) scObject.nd rfl (by first | exact Or.inl rfl | exact Or.inr rfl))) (fun _ _ _ _ _ => pts_nil) (fun _ _ _ _ _ => (pe_ix ix_str pe_str (pe_cal c_draw hr_draw pass0 (pa_cons (pv 0) (pa_cons pe_int pa_nil))) (fun _ _ => rfl))))))) pss_nil)
      (pss_cons (ps_if (pt_cmpR op_eq (pv 1) pe_int (nomark _))
        (pss_one (ps_ret (pe_tup (pa_cons (pe_cal c_draw hr_draw pass0 (pa_cons (pv 0) (pa_cons pe_int pa_nil))) (pa_cons (pe_slice sl_str pe_str po_none (po_some (pe_cal c_draw hr_draw pass0 (pa_cons (pv 0) (pa_cons pe_int pa_nil))))) pa_nil))))) pss_nil)
      (pss_one (ps_ret (pe_ix (ixl K) (pe_lst (pa_cons pe_non (pa_cons (pe_tup pa_nil) (pa_cons pe_str (pa_cons (pe_op op_pow pe_int pe_int) pa_nil))))) (pe_cal c_draw hr_draw pass0 (pa_cons (pv 0) (pa_cons pe_int pa_nil))) (fun _ _ => rfl)))))))), ?_⟩
    refine ⟨_, rfl, a, 5, n + 5, rfl, by decide, by decide, S, fun v H1 v0 v1 k1 S1 => ?_⟩
    refine ⟨_, rfl, rfl, _, rfl, ite2 (fun _ => ?_) fun _ => ?_⟩
    · refine ⟨_, rfl, _, _, rfl, rfl, ⟨by decide, by decide, by decide⟩, a, _, n + 4, rfl, by decide, by decide, S1.mono (by omega), fun u H2 u0 u1 k2 S2 => ?_⟩
      refine ⟨_, _, rfl, rfl, ⟨by decide, by decide, by decide⟩, _, _, rfl, rfl, .inl ⟨by decide, by decide⟩, _, _, rfl, rfl, ?_⟩
      refine k _ _ (.inl ⟨_, rfl, ?_⟩) (k1.trans k2) (S2.mono (by omega))
      have e1 : ((10 : Int) ^ (30 : Int).toNat) = 1000000000000000000000000000000 := by decide
      have e2 : ((10 : Int) ^ (29 : Int).toNat) = 100000000000000000000000000000 := by decide
      have u1 : u < (10 : Int) ^ (30 : Int).toNat := u1
      show (u - 5 * (10 : Int) ^ (29 : Int).toNat).natAbs < 2 ^ 210
      rw [e1] at u1
      rw [e2]
      refine Nat.lt_of_lt_of_le (by omega : _ < 1000000000000000000000000000001) (by decide)
    refine ⟨_, rfl, rfl, _, rfl, ite2 (fun _ => ?_) fun _ => ?_⟩
    · refine ⟨⟨_, rfl⟩, _, rfl, a, 5, n + 4, rfl, by decide, by decide, S1.mono (by omega), fun m H2 m0 m1 k2 S2 => ?_⟩
      obtain ⟨m, rfl⟩ := Int.eq_ofNat_of_zero_le m0
      refine ⟨_, rfl, by omega, by omega, fun D hD => ?_⟩
      refine lc_range (lo := 0) (n := m) (fun i H' => ∃ cs : List Nat, cs.length = i ∧ (∀ c ∈ cs, c < 1114112) ∧ H' D = some (.lst (cs.map fun c => V.str ⟨#[c]⟩)) ∧ Kp a H2 H' ∧ Src H' a (n + 4 - i) ∧ D ≠ a) ⟨[], rfl, (by simp), upd_same, Kp.new hD, S2.new hD, S2.ne hD⟩ ?_ ?_
      · rintro i H3 hi ⟨cs, hc, low, h3, k3, S3, Da⟩
        refine ⟨rfl, yes_then ?_⟩
        refine ⟨_, rfl, a, 7, n + 3 - i, rfl, by decide, by decide, S3.mono (by omega), fun u H4 u0 u1 k4 S4 => ?_⟩
        obtain ⟨c, hcc, hat⟩ := atI_mem (xs := ("abcz 09" : Str).cps.toList) u0 (Int.lt_of_lt_of_le u1 (by decide +kernel))
        have lc : c < 1114112 := (by decide +kernel : ∀ c ∈ ("abcz 09" : Str).cps.toList, c < 1114112) c hcc
        refine ⟨_, u, c, rfl, rfl, (by show 7 ≤ sizeLine; decide), hat, _, k4 _ _ Da h3, (by rw [List.length_map, hc]; exact Nat.lt_of_lt_of_le (by omega : i < 9) (by decide)), cs ++ [c], by rw [List.length_append, hc]; rfl, fun d hd => ?_, ?_, ?_, ?_, Da⟩
        · rcases List.mem_append.mp hd with hd | hd
          · exact low d hd
          · rw [List.mem_singleton.mp hd]; exact lc
        · rw [upd_same, List.map_append]; rfl
        · exact (k3.trans k4).mut (H := H2) hD
        · exact (S4.put Da).mono (by omega)
      · rintro H3 ⟨cs, hc, low, h3, k3, S3, Da⟩
        have e1 : (cs.map fun c => V.str ⟨#[c]⟩) = ((cs.map fun c => (⟨#[c]⟩ : Str)).map V.str) := by rw [List.map_map]; rfl
        rw [e1] at h3
        have one : ∀ y ∈ cs.map (fun c => (⟨#[c]⟩ : Str)), y.length ≤ 1 := fun y hy => by
          obtain ⟨c, _, rfl⟩ := List.mem_map.mp hy
          exact Nat.le_refl 1
        refine ⟨_, D, _, rfl, rfl, .inl (.of h3), ?_, ?_⟩
        · have q := sum_len one
          rw [List.length_map] at q ⊢
          show _ + cs.length * 0 ≤ _
          exact Nat.le_trans (by omega : _ ≤ 9) (by decide)
        rw [join_signs]
        refine k _ _ (.inr (.inl ⟨_, rfl, ?_⟩)) ((k1.trans k2).trans k3) (S3.mono (by omega))
        show (cs.toArray).all (fun x => decide (x < 1114112)) = true
        rw [← Array.all_toList, List.all_eq_true]
        intro c hc
        exact decide_eq_true (low c (by simpa using hc))
    refine ⟨_, rfl, rfl, _, rfl, ite2 (fun _ => ?_) fun _ => ?_⟩
    · refine ⟨_, rfl, a, 9, n + 4, rfl, by decide, by decide, S1.mono (by omega), fun m H2 m0 m1 k2 S2 => ?_⟩
      refine ⟨_, rfl, a, 4, n + 3, rfl, by decide, by decide, S2.mono (by omega), fun u H3 u0 u1 k3 S3 => ?_⟩
      refine ⟨u, rfl, _, rfl, (by show 3 ≤ sizeLine; decide), (by show 2 ≤ sizeLine; decide), fun t ht => ?_⟩
      refine k _ _ (.inr (.inr (.inr (.inl ⟨t, m, _, rfl, upd_same, ?_, cut_ok _ _ (by decide +kernel)⟩)))) (((k1.trans k2).trans k3).then (Same.new ht)) ((S3.new ht).mono (by omega))
      exact Nat.lt_of_lt_of_le (by omega : _ < 10) (by decide)
    refine ⟨(by show 0 ≤ sizeLine; decide), fun t ht => ⟨_, _, rfl, rfl, ⟨by decide, by decide, by decide⟩, (by show 4 ≤ sizeLine; decide), fun l hl => ?_⟩⟩
    have lt : l ≠ t := ne_none hl upd_same
    have S2 : Src (upd (upd H1 t (.tup [])) l (.lst [.non, .ref t, .str "", .int ((10 : Int) ^ (60 : Int).toNat)])) a (n + 5) := (S1.new ht).new hl
    refine ⟨_, rfl, a, 4, n + 4, rfl, by decide, by decide, S2.mono (by omega), fun u H2 u0 u1 k2 S3 => ?_⟩
    obtain ⟨x, hx, hat⟩ := atI_mem (xs := [V.non, .ref t, .str "", .int ((10 : Int) ^ (60 : Int).toNat)]) u0 u1
    have hl2 := k2 _ _ ((S1.new ht).ne hl) upd_same
    have ht2 : H2 t = some (.tup []) := k2 _ _ (S1.ne ht) (by rw [upd_ne (Ne.symm lt)]; exact upd_same)
    have kk : Kp a H H2 := ((k1.then (Same.new ht)).then (Same.new hl)).trans k2
    refine ⟨l, _, u, _, rfl, rfl, .of hl2, hat, ?_⟩
    refine k _ _ ?_ kk (S3.mono (by omega))
    simp only [List.mem_cons, List.not_mem_nil, or_false] at hx
    rcases hx with rfl | rfl | rfl | rfl
    · exact .inr (.inr (.inl rfl))
    · exact .inr (.inr (.inr (.inr ⟨t, rfl, ht2⟩)))
    · exact .inr (.inl ⟨_, rfl, by decide +kernel⟩)
    · exact .inl ⟨_, rfl, by decide⟩
end
end Mf
namespace Mf
open PySem L2
section
variable {P : Program} {w : World} {K : PySem.W.Frag} {mg : Str → Option Value} {base : Heap} {Cs : Fin 8 → Addr}

/-! ### the errors -/
def words : List Str := ["program", "result", "history", "procedure", "place", "cached", "item", "failed"]
def word (j : Fin 8) : Str := words.getD j.val ""
theorem isO {X : Cx} (K : PySem.W.Frag) (h : X.K = K := by rfl) : CallR X (.builtin "isinstance") (rIsO K) := h ▸ call_isO
theorem xaK {X : Cx} (K : PySem.W.Frag) {e : PySem.Expr} {te : TE} {pos : Pos} {n : Str} (he : PE X e te)
    (hb : attributeBase e n X.env (eval e X.env) = eval e X.env := by rfl) (h : X.K = K := by rfl) : PE X (.Attribute e n pos) (tXa K n te) := h ▸ pe_xa he hb
structure Tab (K : PySem.W.Frag) (Cs : Fin 8 → Addr) : Prop where
  xc : ∀ j, ExcC K (Cs j)
  xf : ∀ j, XfC K (Cs j)
  kit : ∀ i j, PySem.W.kitOne K (.ref (Cs i)) (.ref (Cs j)) = some (decide (i = j))

/-! ### _law_classes_of -/
/-- the rows that are laid so far -/
def Rw (j : Fin 8) (H0 H : Hp) (L : Addr) (ts : List Addr) : Prop := Same H0 H ∧ H0 L = none ∧ H L = some (.lst (ts.map V.ref)) ∧
  ∀ i t, ts[i]? = some t → H t = some (.tup [.str (words.getD i ""), .bl (decide (j.val = i))])
theorem Rw.step {j : Fin 8} {H0 H : Hp} {L t t' B : Addr} {ts : List Addr} {w0 w1 : Str} {b0 b1 : Bool} (x : Rw j H0 H L ts)
    (e0 : w0 = words.getD ts.length "") (f0 : b0 = decide (j.val = ts.length)) (e1 : w1 = words.getD (ts.length + 1) "") (f1 : b1 = decide (j.val = ts.length + 1))
    (h : H t = none) (h' : (upd H t (.tup [.str w0, .bl b0])) t' = none) (h'' : (upd (upd H t (.tup [.str w0, .bl b0])) t' (.tup [.str w1, .bl b1])) B = none) :
    (upd (upd (upd H t (.tup [.str w0, .bl b0])) t' (.tup [.str w1, .bl b1])) B (.lst [.ref t, .ref t'])) L = some (.lst (ts.map V.ref)) ∧
    Rw j H0 (upd (upd (upd (upd H t (.tup [.str w0, .bl b0])) t' (.tup [.str w1, .bl b1])) B (.lst [.ref t, .ref t'])) L (.lst (ts.map V.ref ++ [.ref t, .ref t']))) L (ts ++ [t, t']) := by
  obtain ⟨s, l0, hl, ht⟩ := x
  have s3 := ((Same.new (o := .tup [.str w0, .bl b0]) h).trans (Same.new (o := .tup [.str w1, .bl b1]) h')).trans (Same.new (o := .lst [.ref t, .ref t']) h'')
  have hl3 := s3 _ _ hl
  have tL : t ≠ L := ne_none h hl
  have tL' : t' ≠ L := ne_none h' (Same.new h _ _ hl)
  have a0 := (Same.new (o := .lst [.ref t, .ref t']) h'') _ _ ((Same.new (o := .tup [.str w1, .bl b1]) h') t _ upd_same)
  have a1 := (Same.new (o := .lst [.ref t, .ref t']) h'') t' _ upd_same
  refine ⟨hl3, (s.trans s3).mut l0, l0, by rw [upd_same, List.map_append]; rfl, ?_⟩
  intro i u hu
  rw [List.getElem?_append] at hu
  split at hu
  · have hh := ht i u hu
    have uL : u ≠ L := fun e => by rw [e, hl] at hh; simp at hh
    rw [upd_ne uL]
    exact s3 _ _ hh
  · rename_i hi
    have hi : i = ts.length ∨ i = ts.length + 1 := by
      rcases Nat.lt_or_ge (i - ts.length) 2 with q | q
      · omega
      · rw [List.getElem?_eq_none (by simpa using q)] at hu; cases hu
    rcases hi with rfl | rfl
    · rw [Nat.sub_self] at hu
      obtain rfl : t = u := by simpa using hu
      rw [upd_ne tL, a0, e0, f0]
    · rw [Nat.add_sub_cancel_left] at hu
      obtain rfl : t' = u := by simpa using hu
      rw [upd_ne tL', a1, e1, f1]
theorem Rw.same {j : Fin 8} {H0 H H' : Hp} {L : Addr} {ts : List Addr} (x : Rw j H0 H L ts) (h : Same H H') : Rw j H0 H' L ts :=
  ⟨x.1.trans h, x.2.1, h _ _ x.2.2.1, fun i t ht => h _ _ (x.2.2.2 i t ht)⟩
theorem Rw.put {j : Fin 8} {H0 H : Hp} {L D : Addr} {ts : List Addr} {xs ys : List V} (x : Rw j H0 H L ts) (h : H D = some (.lst xs)) (n : D ≠ L) (h0 : H0 D = none) : Rw j H0 (upd H D (.lst ys)) L ts :=
  ⟨x.1.mut h0, x.2.1, by rw [upd_ne (Ne.symm n)]; exact x.2.2.1, fun i t ht => by
    have q := x.2.2.2 i t ht
    rw [upd_ne (fun e => by rw [e, h] at q; simp at q)]
    exact q⟩
theorem fin_eq (j i : Fin 8) : decide (j = i) = decide (j.val = i.val) := by
  by_cases h : j = i
  · rw [h]; simp
  · rw [decide_eq_false h, decide_eq_false (fun e => h (Fin.ext e))]
theorem rw_two {j : Fin 8} {H : Hp} {t0 t1 L : Addr} (h0 : H t0 = none) (h1 : (upd H t0 (.tup [.str "program", .bl (decide (j = 0))])) t1 = none)
    (hL : (upd (upd H t0 (.tup [.str "program", .bl (decide (j = 0))])) t1 (.tup [.str "result", .bl (decide (j = 1))])) L = none) :
    ∀ i t, [t0, t1][i]? = some t → (upd (upd (upd H t0 (.tup [.str "program", .bl (decide (j = 0))])) t1 (.tup [.str "result", .bl (decide (j = 1))])) L (.lst [.ref t0, .ref t1])) t = some (.tup [.str (words.getD i ""), .bl (decide (j.val = i))]) := by
  intro i t ht
  match i, ht with
  | 0, ht =>
    obtain rfl : t0 = t := by simpa using ht
    have e0 : decide (j.val = 0) = decide (j = 0) := (fin_eq j 0).symm
    rw [e0]
    exact Same.new hL _ _ (Same.new h1 t0 _ upd_same)
  | 1, ht =>
    obtain rfl : t1 = t := by simpa using ht
    have e0 : decide (j.val = 1) = decide (j = 1) := (fin_eq j 1).symm
    rw [e0]
    exact Same.new hL t1 _ upd_same
  | i + 2, ht => simp at ht
def spClasses (Cs : Fin 8 → Addr) : Sp := fun vs H Q _ => ∃ (e dx : Addr) (j : Fin 8) (fs : List (Str × V)), vs = [.ref e] ∧ H e = some (exo e (Cs j) (some dx)) ∧ H dx = some (exd dx fs) ∧
  ∀ p H', H' p = some (.lst [.str (word j)]) → Same H H' → Q (.ref p) H'
abbrev sClasses_of : Stmt := top 14
theorem scClasses_of : FnScope ["_law_e", "_law_rows", "_law_word", "_law_fits"] ["_law_e"] (defScope sClasses_of) := ⟨rfl, rfl, rfl, by decide +kernel, rfl, by decide +kernel, by decide +kernel⟩
theorem ok_classes {f : Addr} {fd : FuncData} (F : Fun K "_law_classes_of" "_law_classes_of" sClasses_of f fd) (T : Tab K Cs) (mIsi : mg "isinstance" = none)
    (mg_InvalidProgram : mg "InvalidProgram" = some (.ref (Cs 0))) (mg_InvalidResult : mg "InvalidResult" = some (.ref (Cs 1))) (mg_InvalidHistory : mg "InvalidHistory" = some (.ref (Cs 2)))
    (mg_UnknownProcedure : mg "UnknownProcedure" = some (.ref (Cs 3))) (mg_UnknownPlace : mg "UnknownPlace" = some (.ref (Cs 4))) (mg_NotCached : mg "NotCached" = some (.ref (Cs 5)))
    (mg_NoItem : mg "NoItem" = some (.ref (Cs 6))) (mg_CallFailed : mg "CallFailed" = some (.ref (Cs 7))) : FnOk P w K mg base CX0 1 f fd ["_law_e"] (spClasses Cs) := by
  refine F.ok scClasses_of (fun vs H Q E h => ?_) (fun cdv A outer s H vs Q E hr h => ?_)
  · obtain ⟨e, dx, j, fs, rfl, _⟩ := h
    rfl
  · obtain ⟨e, dx, j, fs, rfl, he, hd, k⟩ := h
    refine ⟨_, (pss_cons (ps_set (i := 1) scClasses_of.nd rfl (by first | exact Or.inl rfl | exact Or.inr rfl) (pe_lst (pa_cons (pe_tup (pa_cons pe_str (pa_cons (pe_callB (isO K) (by rfl) mIsi (by decide +kernel) (pa_cons (pv 0) (pa_cons (pe_glob (v := .ref _) rfl mg_InvalidProgram rfl) pa_nil))) pa_nil))) (pa_cons (pe_tup (pa_cons pe_str (pa_cons (pe_callB (isO K) (by rfl) mIsi (by decide +kernel) (pa_cons (pv 0) (pa_cons (pe_glob (v := .ref _) rfl mg_InvalidResult rfl) pa_nil))) pa_nil))) pa_nil))))
      (pss_cons (ps_expr (pe_bm PySem.F.plainAttrs_list PySem.F.slot_list_extend PySem.F.type_list_extend mt_extend (pv 1) (pa_cons (pe_lst (pa_cons (pe_tup (pa_cons pe_str (pa_cons (pe_callB (isO K) (by rfl) mIsi (by decide +kernel) (pa_cons (pv 0) (pa_cons (pe_glob (v := .ref _) rfl mg_InvalidHistory rfl) pa_nil))) pa_nil))) (pa_cons (pe_tup (pa_cons pe_str (pa_cons (pe_callB (isO K) (by rfl) mIsi (by decide +kernel) (pa_cons (pv 0) (pa_cons (pe_glob (v := .ref _) rfl mg_UnknownProcedure rfl) pa_nil))) pa_nil))) pa_nil))) pa_nil)))
      (pss_cons (ps_expr (pe_bm PySem.F.plainAttrs_list PySem.F.slot_list_extend PySem.F.type_list_extend mt_extend (pv 1) (pa_cons (pe_lst (pa_cons (pe_tup (pa_cons pe_str (pa_cons (pe_callB (isO K) (by rfl) mIsi (by decide +kernel) (pa_cons (pv 0) (pa_cons (pe_glob (v := .ref _) rfl mg_UnknownPlace rfl) pa_nil))) pa_nil))) (pa_cons (pe_tup (pa_cons pe_str (pa_cons (pe_callB (isO K) (by rfl) mIsi (by decide +kernel) (pa_cons (pv 0) (pa_cons (pe_glob (v := .ref _) rfl mg_NotCached rfl) pa_nil))) pa_nil))) pa_nil))) pa_nil)))
      (pss_cons (ps_expr (pe_bm PySem.F.plainAttrs_list PySem.F.slot_list_extend PySem.F.type_list_extend mt_extend (pv 1) (pa_cons (pe_lst (pa_cons (pe_tup (pa_cons pe_str (pa_cons (pe_callB (isO K) (by rfl) mIsi (by decide +kernel) (pa_cons (pv 0) (pa_cons (pe_glob (v := .ref _) rfl mg_NoItem rfl) pa_nil))) pa_nil))) (pa_cons (pe_tup (pa_cons pe_str (pa_cons (pe_callB (isO K) (by rfl) mIsi (by decide +kernel) (pa_cons (pv 0) (pa_cons (pe_glob (v := .ref _) rfl mg_CallFailed rfl) pa_nil))) pa_nil))) pa_nil))) pa_nil)))
      (pss_one (ps_ret (pe_lc (own := [("_law_word", 2), ("_law_fits", 3)]) (g := (gTup K 2 (gCons (gName 2) (gCons (gName 3) gNil)))) rfl scClasses_of.nd (pi_list (pv 1)) (blkOk_by (own := [("_law_word", 2), ("_law_fits", 3)]) (N := ["_law_e", "_law_rows", "_law_word", "_law_fits"]) (sc := defScope sClasses_of) (by decide +kernel)) (fun _ _ _ _ _ => (pg_tup rfl (pgs_cons (pg_name (i := 2) scClasses_of.nd rfl (by first | exact Or.inl rfl | exact Or.inr rfl)) (pgs_cons (pg_name (i := 3) scClasses_of.nd rfl (by first | exact Or.inl rfl | exact Or.inr rfl)) pgs_nil)))) (fun _ _ _ _ _ => pts_one (pt_val (pv 3))) (fun _ _ _ _ _ => (pv 2))))))))), ?_⟩
    refine ⟨_, rfl, e, _, dx, fs, _, _, _, rfl, he, hd, T.xc j, (fun _ h => h), T.kit j 0, (by show 2 ≤ sizeLine; decide), fun t0 h0 => ?_⟩
    have s0 := Same.new (o := .tup [.str "program", .bl (decide (j = 0))]) h0
    refine ⟨_, rfl, e, _, dx, fs, _, _, _, rfl, s0 _ _ he, s0 _ _ hd, T.xc j, (fun _ h => h), T.kit j 1, (by show 2 ≤ sizeLine; decide), fun t1 h1 => ?_⟩
    have s1 := s0.trans (Same.new (o := .tup [.str "result", .bl (decide (j = 1))]) h1)
    refine ⟨(by show 2 ≤ sizeLine; decide), fun L hL => ?_⟩
    have R0 : Rw j H _ L [t0, t1] := ⟨s1.trans (Same.new (o := .lst [.ref t0, .ref t1]) hL), s1.free hL, upd_same, rw_two h0 h1 hL⟩
    refine ⟨_, rfl, .inl ⟨rfl, _, .of R0.2.2.1⟩, _, rfl, e, _, dx, fs, _, _, _, rfl, R0.1 _ _ he, R0.1 _ _ hd, T.xc j, (fun _ h => h), T.kit j 2, (by show 2 ≤ sizeLine; decide), fun t2 h2 => ?_⟩
    have s2 := R0.1.trans (Same.new (o := .tup [.str "history", .bl (decide (j = 2))]) h2)
    refine ⟨_, rfl, e, _, dx, fs, _, _, _, rfl, s2 _ _ he, s2 _ _ hd, T.xc j, (fun _ h => h), T.kit j 3, (by show 2 ≤ sizeLine; decide), fun t3 h3 => ?_⟩
    refine ⟨(by show 2 ≤ sizeLine; decide), fun B1 hB1 => ?_⟩
    obtain ⟨l1, R1⟩ := R0.step rfl (fin_eq j 2) rfl (fin_eq j 3) h2 h3 hB1
    refine ⟨L, B1, _, _, rfl, rfl, l1, upd_same, (by show 2 + 2 ≤ sizeLine; decide), ?_⟩
    refine ⟨_, rfl, .inl ⟨rfl, _, .of R1.2.2.1⟩, _, rfl, e, _, dx, fs, _, _, _, rfl, R1.1 _ _ he, R1.1 _ _ hd, T.xc j, (fun _ h => h), T.kit j 4, (by show 2 ≤ sizeLine; decide), fun t4 h4 => ?_⟩
    have s4 := R1.1.trans (Same.new (o := .tup [.str "place", .bl (decide (j = 4))]) h4)
    refine ⟨_, rfl, e, _, dx, fs, _, _, _, rfl, s4 _ _ he, s4 _ _ hd, T.xc j, (fun _ h => h), T.kit j 5, (by show 2 ≤ sizeLine; decide), fun t5 h5 => ?_⟩
    refine ⟨(by show 2 ≤ sizeLine; decide), fun B2 hB2 => ?_⟩
    obtain ⟨l2, R2⟩ := R1.step rfl (fin_eq j 4) rfl (fin_eq j 5) h4 h5 hB2
    refine ⟨L, B2, _, _, rfl, rfl, l2, upd_same, (by show 4 + 2 ≤ sizeLine; decide), ?_⟩
    refine ⟨_, rfl, .inl ⟨rfl, _, .of R2.2.2.1⟩, _, rfl, e, _, dx, fs, _, _, _, rfl, R2.1 _ _ he, R2.1 _ _ hd, T.xc j, (fun _ h => h), T.kit j 6, (by show 2 ≤ sizeLine; decide), fun t6 h6 => ?_⟩
    have s6 := R2.1.trans (Same.new (o := .tup [.str "item", .bl (decide (j = 6))]) h6)
    refine ⟨_, rfl, e, _, dx, fs, _, _, _, rfl, s6 _ _ he, s6 _ _ hd, T.xc j, (fun _ h => h), T.kit j 7, (by show 2 ≤ sizeLine; decide), fun t7 h7 => ?_⟩
    refine ⟨(by show 2 ≤ sizeLine; decide), fun B3 hB3 => ?_⟩
    obtain ⟨l3, R3⟩ := R2.step rfl (fin_eq j 6) rfl (fin_eq j 7) h6 h7 hB3
    refine ⟨L, B3, _, _, rfl, rfl, l3, upd_same, (by show 6 + 2 ≤ sizeLine; decide), ?_⟩
    have R4 : Rw j H _ L [t0, t1, t2, t3, t4, t5, t6, t7] := R3
    refine ⟨_, rfl, L, rfl, ⟨_, .of R4.2.2.1⟩, fun D hD => ?_⟩
    have DL : D ≠ L := ne_none hD R4.2.2.1
    have D0 : H D = none := R4.1.free hD
    refine lc_it walk_list (fun i H' => H' D = some (.lst (if j.val < i then [V.str (word j)] else [])) ∧ Rw j H H' L [t0, t1, t2, t3, t4, t5, t6, t7]) ⟨upd_same, R4.same (Same.new hD)⟩ (fun i H' _ q => .of q.2.2.2.1) ?_ ?_
    · rintro i x H5 _ hi ⟨h5, R5⟩ ⟨rfl, hx⟩
      rw [List.getElem?_map] at hx
      obtain ⟨t, ht, rfl⟩ := Option.map_eq_some_iff.mp hx
      have h6 := R5.2.2.2 i t ht
      have i8 : i < 8 := hi
      refine ⟨t, _, rfl, .of h6, rfl, _, _, rfl, _, _, rfl, rfl, rfl, _, rfl, _, rfl, ite2 (fun hj => ?_) fun hj => ?_⟩
      · have hj : j.val = i := of_decide_eq_true hj
        rw [if_neg (by omega)] at h5
        refine ⟨_, rfl, [], h5, by decide, ?_, R5.put h5 DL D0⟩
        rw [upd_same, if_pos (by omega), ← hj]
        rfl
      · have hj : ¬ j.val = i := of_decide_eq_false (by simpa using hj)
        refine ⟨?_, R5⟩
        by_cases q : j.val < i
        · rw [if_pos q] at h5
          rw [if_pos (by omega)]; exact h5
        · rw [if_neg q] at h5
          rw [if_neg (by omega)]; exact h5
    · rintro H5 ⟨h5, R5⟩
      rw [if_pos (show j.val < (List.map V.ref [t0, t1, t2, t3, t4, t5, t6, t7]).length from j.isLt)] at h5
      exact k D _ h5 R5.1
end
end Mf
namespace Mf
open PySem L2
section
variable {P : Program} {w : World} {K : PySem.W.Frag} {mg : Str → Option Value} {base : Heap} {Cs : Fin 8 → Addr}

/-! ### _law_fields -/
def NoF (K : PySem.W.Frag) (Cs : Fin 8 → Addr) : Prop := ∀ j, ∀ n ∈ [("line" : Str), "name", "place", "path"], PySem.W.findIn K (.ref (Cs j)) n = some none
/-- the fields of the error j, with what they hold -/
def FldV (j : Fin 8) (fs : List (Str × V)) (xs : List V) : Prop :=
  (j.val ≤ 2 ∧ ∃ v, fs.lookup ("line" : Str) = some v ∧ xs = [v]) ∨ ((j.val = 3 ∨ j.val = 5) ∧ ∃ v, fs.lookup ("name" : Str) = some v ∧ xs = [v]) ∨
  (j.val = 4 ∧ ∃ v, fs.lookup ("place" : Str) = some v ∧ xs = [v]) ∨ (j.val = 6 ∧ ∃ v, fs.lookup ("path" : Str) = some v ∧ xs = [v]) ∨
  (j.val = 7 ∧ ∃ a b c, fs.lookup ("name" : Str) = some a ∧ fs.lookup ("path" : Str) = some b ∧ fs.lookup ("place" : Str) = some c ∧ xs = [a, b, c])
def spFields (Cs : Fin 8 → Addr) : Sp := fun vs H Q _ => ∃ (e dx : Addr) (j : Fin 8) (fs : List (Str × V)) (xs : List V), vs = [.str (word j), .ref e] ∧ H e = some (exo e (Cs j) (some dx)) ∧ H dx = some (exd dx fs) ∧
  FldV j fs xs ∧ ∀ p H', H' p = some (.lst xs) → Same H H' → Q (.ref p) H'
abbrev sFields : Stmt := top 15
theorem scFields : FnScope ["_law_word", "_law_e"] ["_law_word", "_law_e"] (defScope sFields) := ⟨rfl, rfl, rfl, by decide +kernel, rfl, by decide +kernel, by decide +kernel⟩
theorem in_a : ∀ j : Fin 8, decide (word j ∈ [("program" : Str), "result", "history"]) = decide (j.val ≤ 2) := by decide +kernel
theorem in_b : ∀ j : Fin 8, decide (word j ∈ [("procedure" : Str), "cached"]) = decide (j.val = 3 ∨ j.val = 5) := by decide +kernel
theorem in_c : ∀ j : Fin 8, decide (V.str (word j) = V.str "place") = decide (j.val = 4) := by decide +kernel
theorem in_d : ∀ j : Fin 8, decide (V.str (word j) = V.str "item") = decide (j.val = 6) := by decide +kernel
theorem ok_fields {f : Addr} {fd : FuncData} (F : Fun K "_law_fields" "_law_fields" sFields f fd) (T : Tab K Cs) (N : NoF K Cs) : FnOk P w K mg base CX0 1 f fd ["_law_word", "_law_e"] (spFields Cs) := by
  refine F.ok scFields (fun vs H Q E h => ?_) (fun cdv A outer s H vs Q E hr h => ?_)
  · obtain ⟨e, dx, j, fs, xs, rfl, _⟩ := h
    rfl
  · obtain ⟨e, dx, j, fs, xs, rfl, he, hd, hx, k⟩ := h
    refine ⟨_, (pss_cons (ps_if (pt_cmpR (oin K) (pv 0) (pe_tup (pa_cons pe_str (pa_cons pe_str (pa_cons pe_str pa_nil)))) (by rfl))
        (pss_one (ps_ret (pe_lst (pa_cons (xaK K (pv 1)) pa_nil)))) pss_nil)
      (pss_cons (ps_if (pt_cmpR (oin K) (pv 0) (pe_tup (pa_cons pe_str (pa_cons pe_str pa_nil))) (by rfl))
        (pss_one (ps_ret (pe_lst (pa_cons (xaK K (pv 1)) pa_nil)))) pss_nil)
      (pss_cons (ps_if (pt_cmpR op_eq (pv 0) pe_str (nomark _))
        (pss_one (ps_ret (pe_lst (pa_cons (xaK K (pv 1)) pa_nil)))) pss_nil)
      (pss_cons (ps_if (pt_cmpR op_eq (pv 0) pe_str (nomark _))
        (pss_one (ps_ret (pe_lst (pa_cons (xaK K (pv 1)) pa_nil)))) pss_nil)
      (pss_one (ps_ret (pe_lst (pa_cons (xaK K (pv 1)) (pa_cons (xaK K (pv 1)) (pa_cons (xaK K (pv 1)) pa_nil)))))))))), ?_⟩
    refine ⟨_, rfl, (by show 3 ≤ sizeLine; decide), fun t ht => ?_⟩
    have s1 := Same.new (o := .tup [.str "program", .str "result", .str "history"]) ht
    refine ⟨t, _, rfl, .inr (.of upd_same), rfl, flat_strs ["program", "result", "history"], ?_⟩
    refine ⟨_, rfl, ?_⟩
    show if inV (.str (word j)) ((["program", "result", "history"] : List Str).map V.str) = true then _ else _
    rw [inV_str, in_a]
    have he1 := s1 _ _ he
    have hd1 := s1 _ _ hd
    refine ite2 (fun q1 => ?_) fun q1 => ?_
    · have q1 : j.val ≤ 2 := of_decide_eq_true q1
      rcases hx with ⟨_, v, lv, rfl⟩ | h | h | h | h
      · exact ⟨_, rfl, e, _, dx, fs, v, rfl, he1, hd1, T.xf j, N j _ (by simp), lv, (by show 1 ≤ sizeLine; decide), fun p hp => k p _ upd_same (s1.trans (Same.new hp))⟩
      all_goals (have := h.1; omega)
    have q1 : ¬ j.val ≤ 2 := of_decide_eq_false (by simpa using q1)
    refine ⟨_, rfl, (by show 2 ≤ sizeLine; decide), fun t2 ht2 => ?_⟩
    have s2 := s1.trans (Same.new (o := .tup [.str "procedure", .str "cached"]) ht2)
    refine ⟨t2, _, rfl, .inr (.of upd_same), rfl, flat_strs ["procedure", "cached"], ?_⟩
    refine ⟨_, rfl, ?_⟩
    show if inV (.str (word j)) ((["procedure", "cached"] : List Str).map V.str) = true then _ else _
    rw [inV_str, in_b]
    have he2 := s2 _ _ he
    have hd2 := s2 _ _ hd
    refine ite2 (fun q2 => ?_) fun q2 => ?_
    · have q2 : j.val = 3 ∨ j.val = 5 := of_decide_eq_true q2
      rcases hx with h | ⟨_, v, lv, rfl⟩ | h | h | h
      · exact absurd h.1 q1
      · exact ⟨_, rfl, e, _, dx, fs, v, rfl, he2, hd2, T.xf j, N j _ (by simp), lv, (by show 1 ≤ sizeLine; decide), fun p hp => k p _ upd_same (s2.trans (Same.new hp))⟩
      all_goals (have := h.1; omega)
    have q2 : ¬ (j.val = 3 ∨ j.val = 5) := of_decide_eq_false (by simpa using q2)
    refine ⟨_, rfl, rfl, _, rfl, ?_⟩
    show if decide (V.str (word j) = V.str "place") = true then _ else _
    rw [in_c]
    refine ite2 (fun q3 => ?_) fun q3 => ?_
    · have q3 : j.val = 4 := of_decide_eq_true q3
      rcases hx with h | h | ⟨_, v, lv, rfl⟩ | h | h
      · exact absurd h.1 q1
      · exact absurd h.1 q2
      · exact ⟨_, rfl, e, _, dx, fs, v, rfl, he2, hd2, T.xf j, N j _ (by simp), lv, (by show 1 ≤ sizeLine; decide), fun p hp => k p _ upd_same (s2.trans (Same.new hp))⟩
      all_goals (have := h.1; omega)
    have q3 : ¬ j.val = 4 := of_decide_eq_false (by simpa using q3)
    refine ⟨_, rfl, rfl, _, rfl, ?_⟩
    show if decide (V.str (word j) = V.str "item") = true then _ else _
    rw [in_d]
    refine ite2 (fun q4 => ?_) fun q4 => ?_
    · have q4 : j.val = 6 := of_decide_eq_true q4
      rcases hx with h | h | h | ⟨_, v, lv, rfl⟩ | h
      · exact absurd h.1 q1
      · exact absurd h.1 q2
      · exact absurd h.1 q3
      · exact ⟨_, rfl, e, _, dx, fs, v, rfl, he2, hd2, T.xf j, N j _ (by simp), lv, (by show 1 ≤ sizeLine; decide), fun p hp => k p _ upd_same (s2.trans (Same.new hp))⟩
      · have := h.1; omega
    have q4 : ¬ j.val = 6 := of_decide_eq_false (by simpa using q4)
    rcases hx with h | h | h | h | ⟨_, a, b, c, la, lb, lc, rfl⟩
    · exact absurd h.1 q1
    · exact absurd h.1 q2
    · exact absurd h.1 q3
    · exact absurd h.1 q4
    exact ⟨_, rfl, e, _, dx, fs, a, rfl, he2, hd2, T.xf j, N j _ (by simp), la, _, rfl, e, _, dx, fs, b, rfl, he2, hd2, T.xf j, N j _ (by simp), lb,
      _, rfl, e, _, dx, fs, c, rfl, he2, hd2, T.xf j, N j _ (by simp), lc, (by show 3 ≤ sizeLine; decide), fun p hp => k p _ upd_same (s2.trans (Same.new hp))⟩
end
end Mf
namespace Mf
open PySem L2
section
variable {P : Program} {w : World} {K : PySem.W.Frag} {mg : Str → Option Value} {base : Heap} {C : Addr}

/-! ### the first methods of the errors -/
def spIni1 (C : Addr) (n : Str) : Sp := fun vs H Q _ => ∃ (a : Addr) (v : V), vs = [.ref a, v] ∧ H a = some (exo a C none) ∧
  ∀ dx, H dx = none → dx ≠ a → Q .non (upd (upd H dx (exd dx [(n, v)])) a (exo a C (some dx)))
def spIni3 (C : Addr) : Sp := fun vs H Q _ => ∃ (a : Addr) (x y z : V), vs = [.ref a, x, y, z] ∧ H a = some (exo a C none) ∧
  ∀ dx, H dx = none → dx ≠ a → ∀ H', H' dx = some (exd dx [("place", z), ("path", y), ("name", x)]) → H' a = some (exo a C (some dx)) →
    (∀ b, b ≠ a → b ≠ dx → H' b = H b) → Q .non H'
abbrev sInvalidProgramInit : Stmt := inClass (top 2) 0
theorem scInvalidProgramInit : FnScope ["self", "line"] ["self", "line"] (defScope sInvalidProgramInit) := ⟨rfl, rfl, rfl, by decide +kernel, rfl, by decide +kernel, by decide +kernel⟩
theorem ok_InvalidProgram {f : Addr} {fd : FuncData} (F : Fun K "__init__" "InvalidProgram.__init__" sInvalidProgramInit f fd) (T : OexC K C) (N : PySem.W.findIn K (.ref C) "line" = some none) : FnOk P w K mg base CX0 1 f fd ["self", "line"] (spIni1 C "line") := by
  refine F.ok scInvalidProgramInit (fun vs H Q E h => ?_) (fun cdv A outer s H vs Q E hr h => ?_)
  · obtain ⟨a, v, rfl, _⟩ := h
    rfl
  · obtain ⟨a, v, rfl, ha, k⟩ := h
    refine ⟨_, pss_one (ps_ost (pv 0) (pv 1)), ?_⟩
    exact ⟨_, rfl, _, rfl, a, C, rfl, T, N, .inl ⟨ha, fun dx hd na => k dx hd na⟩⟩
abbrev sInvalidResultInit : Stmt := inClass (top 3) 0
theorem scInvalidResultInit : FnScope ["self", "line"] ["self", "line"] (defScope sInvalidResultInit) := ⟨rfl, rfl, rfl, by decide +kernel, rfl, by decide +kernel, by decide +kernel⟩
theorem ok_InvalidResult {f : Addr} {fd : FuncData} (F : Fun K "__init__" "InvalidResult.__init__" sInvalidResultInit f fd) (T : OexC K C) (N : PySem.W.findIn K (.ref C) "line" = some none) : FnOk P w K mg base CX0 1 f fd ["self", "line"] (spIni1 C "line") := by
  refine F.ok scInvalidResultInit (fun vs H Q E h => ?_) (fun cdv A outer s H vs Q E hr h => ?_)
  · obtain ⟨a, v, rfl, _⟩ := h
    rfl
  · obtain ⟨a, v, rfl, ha, k⟩ := h
    refine ⟨_, pss_one (ps_ost (pv 0) (pv 1)), ?_⟩
    exact ⟨_, rfl, _, rfl, a, C, rfl, T, N, .inl ⟨ha, fun dx hd na => k dx hd na⟩⟩
abbrev sInvalidHistoryInit : Stmt := inClass (top 4) 0
theorem scInvalidHistoryInit : FnScope ["self", "line"] ["self", "line"] (defScope sInvalidHistoryInit) := ⟨rfl, rfl, rfl, by decide +kernel, rfl, by decide +kernel, by decide +kernel⟩
theorem ok_InvalidHistory {f : Addr} {fd : FuncData} (F : Fun K "__init__" "InvalidHistory.__init__" sInvalidHistoryInit f fd) (T : OexC K C) (N : PySem.W.findIn K (.ref C) "line" = some none) : FnOk P w K mg base CX0 1 f fd ["self", "line"] (spIni1 C "line") := by
  refine F.ok scInvalidHistoryInit (fun vs H Q E h => ?_) (fun cdv A outer s H vs Q E hr h => ?_)
  · obtain ⟨a, v, rfl, _⟩ := h
    rfl
  · obtain ⟨a, v, rfl, ha, k⟩ := h
    refine ⟨_, pss_one (ps_ost (pv 0) (pv 1)), ?_⟩
    exact ⟨_, rfl, _, rfl, a, C, rfl, T, N, .inl ⟨ha, fun dx hd na => k dx hd na⟩⟩
abbrev sUnknownProcedureInit : Stmt := inClass (top 5) 0
theorem scUnknownProcedureInit : FnScope ["self", "name"] ["self", "name"] (defScope sUnknownProcedureInit) := ⟨rfl, rfl, rfl, by decide +kernel, rfl, by decide +kernel, by decide +kernel⟩
theorem ok_UnknownProcedure {f : Addr} {fd : FuncData} (F : Fun K "__init__" "UnknownProcedure.__init__" sUnknownProcedureInit f fd) (T : OexC K C) (N : PySem.W.findIn K (.ref C) "name" = some none) : FnOk P w K mg base CX0 1 f fd ["self", "name"] (spIni1 C "name") := by
  refine F.ok scUnknownProcedureInit (fun vs H Q E h => ?_) (fun cdv A outer s H vs Q E hr h => ?_)
  · obtain ⟨a, v, rfl, _⟩ := h
    rfl
  · obtain ⟨a, v, rfl, ha, k⟩ := h
    refine ⟨_, pss_one (ps_ost (pv 0) (pv 1)), ?_⟩
    exact ⟨_, rfl, _, rfl, a, C, rfl, T, N, .inl ⟨ha, fun dx hd na => k dx hd na⟩⟩
abbrev sUnknownPlaceInit : Stmt := inClass (top 6) 0
theorem scUnknownPlaceInit : FnScope ["self", "place"] ["self", "place"] (defScope sUnknownPlaceInit) := ⟨rfl, rfl, rfl, by decide +kernel, rfl, by decide +kernel, by decide +kernel⟩
theorem ok_UnknownPlace {f : Addr} {fd : FuncData} (F : Fun K "__init__" "UnknownPlace.__init__" sUnknownPlaceInit f fd) (T : OexC K C) (N : PySem.W.findIn K (.ref C) "place" = some none) : FnOk P w K mg base CX0 1 f fd ["self", "place"] (spIni1 C "place") := by
  refine F.ok scUnknownPlaceInit (fun vs H Q E h => ?_) (fun cdv A outer s H vs Q E hr h => ?_)
  · obtain ⟨a, v, rfl, _⟩ := h
    rfl
  · obtain ⟨a, v, rfl, ha, k⟩ := h
    refine ⟨_, pss_one (ps_ost (pv 0) (pv 1)), ?_⟩
    exact ⟨_, rfl, _, rfl, a, C, rfl, T, N, .inl ⟨ha, fun dx hd na => k dx hd na⟩⟩
abbrev sNotCachedInit : Stmt := inClass (top 7) 0
theorem scNotCachedInit : FnScope ["self", "name"] ["self", "name"] (defScope sNotCachedInit) := ⟨rfl, rfl, rfl, by decide +kernel, rfl, by decide +kernel, by decide +kernel⟩
theorem ok_NotCached {f : Addr} {fd : FuncData} (F : Fun K "__init__" "NotCached.__init__" sNotCachedInit f fd) (T : OexC K C) (N : PySem.W.findIn K (.ref C) "name" = some none) : FnOk P w K mg base CX0 1 f fd ["self", "name"] (spIni1 C "name") := by
  refine F.ok scNotCachedInit (fun vs H Q E h => ?_) (fun cdv A outer s H vs Q E hr h => ?_)
  · obtain ⟨a, v, rfl, _⟩ := h
    rfl
  · obtain ⟨a, v, rfl, ha, k⟩ := h
    refine ⟨_, pss_one (ps_ost (pv 0) (pv 1)), ?_⟩
    exact ⟨_, rfl, _, rfl, a, C, rfl, T, N, .inl ⟨ha, fun dx hd na => k dx hd na⟩⟩
abbrev sNoItemInit : Stmt := inClass (top 8) 0
theorem scNoItemInit : FnScope ["self", "path"] ["self", "path"] (defScope sNoItemInit) := ⟨rfl, rfl, rfl, by decide +kernel, rfl, by decide +kernel, by decide +kernel⟩
theorem ok_NoItem {f : Addr} {fd : FuncData} (F : Fun K "__init__" "NoItem.__init__" sNoItemInit f fd) (T : OexC K C) (N : PySem.W.findIn K (.ref C) "path" = some none) : FnOk P w K mg base CX0 1 f fd ["self", "path"] (spIni1 C "path") := by
  refine F.ok scNoItemInit (fun vs H Q E h => ?_) (fun cdv A outer s H vs Q E hr h => ?_)
  · obtain ⟨a, v, rfl, _⟩ := h
    rfl
  · obtain ⟨a, v, rfl, ha, k⟩ := h
    refine ⟨_, pss_one (ps_ost (pv 0) (pv 1)), ?_⟩
    exact ⟨_, rfl, _, rfl, a, C, rfl, T, N, .inl ⟨ha, fun dx hd na => k dx hd na⟩⟩
abbrev sCallFailedInit : Stmt := inClass (top 9) 0
theorem scCallFailedInit : FnScope ["self", "name", "path", "place"] ["self", "name", "path", "place"] (defScope sCallFailedInit) := ⟨rfl, rfl, rfl, by decide +kernel, rfl, by decide +kernel, by decide +kernel⟩
theorem ok_CallFailed {f : Addr} {fd : FuncData} (F : Fun K "__init__" "CallFailed.__init__" sCallFailedInit f fd) (T : OexC K C) (N1 : PySem.W.findIn K (.ref C) "name" = some none) (N2 : PySem.W.findIn K (.ref C) "path" = some none) (N3 : PySem.W.findIn K (.ref C) "place" = some none) : FnOk P w K mg base CX0 1 f fd ["self", "name", "path", "place"] (spIni3 C) := by
  refine F.ok scCallFailedInit (fun vs H Q E h => ?_) (fun cdv A outer s H vs Q E hr h => ?_)
  · obtain ⟨a, x, y, z, rfl, _⟩ := h
    rfl
  · obtain ⟨a, x, y, z, rfl, ha, k⟩ := h
    refine ⟨_, pss_cons (ps_ost (pv 0) (pv 1)) (pss_cons (ps_ost (pv 0) (pv 2)) (pss_one (ps_ost (pv 0) (pv 3)))), ?_⟩
    refine ⟨_, rfl, _, rfl, a, C, rfl, T, N1, .inl ⟨ha, fun dx hd na => ?_⟩⟩
    have e1 : (upd (upd H dx (exd dx [("name", x)])) a (exo a C (some dx))) dx = some (exd dx [("name", x)]) := by rw [upd_ne na]; exact upd_same
    refine ⟨_, rfl, _, rfl, a, C, rfl, T, N2, .inr ⟨dx, _, upd_same, e1, (by show 1 ≤ 900; decide), ?_⟩⟩
    have e2 : (upd (upd (upd H dx (exd dx [("name", x)])) a (exo a C (some dx))) dx (exd dx [("path", y), ("name", x)])) a = some (exo a C (some dx)) := by rw [upd_ne (Ne.symm na)]; exact upd_same
    refine ⟨_, rfl, _, rfl, a, C, rfl, T, N3, .inr ⟨dx, _, e2, upd_same, (by show 2 ≤ 900; decide), ?_⟩⟩
    refine k dx hd na _ upd_same ?_ ?_
    · rw [upd_ne (Ne.symm na)]; exact e2
    · intro b ba bd
      rw [upd_ne bd, upd_ne bd, upd_ne ba, upd_ne bd]
end
end Mf
namespace Mf
open PySem L2
section
variable {P : Program} {w : World} {K : PySem.W.Frag} {mg : Str → Option Value} {base : Heap} {Cs : Fin 8 → Addr}

/-! ### the law -/
def g1 (us ws : List Value) : List Value := us ++ ws
def gV1 (us ws : List V) : List V := us ++ ws
def g3 (us ws : List Value) : List Value := us ++ (ws.drop 1 ++ ws.take 1)
def gV3 (us ws : List V) : List V := us ++ (ws.drop 1 ++ ws.take 1)
/-- an error that is there -/
def ErA (Cs : Fin 8 → Addr) (H : Hp) (e : Addr) (j : Fin 8) (xs : List V) : Prop := ∃ dx fs, H e = some (exo e (Cs j) (some dx)) ∧ H dx = some (exd dx fs) ∧ FldV j fs xs
theorem ErA.same {H H' : Hp} {e : Addr} {j : Fin 8} {xs : List V} (x : ErA Cs H e j xs) (h : Same H H') : ErA Cs H' e j xs :=
  let ⟨dx, fs, a, b, c⟩ := x; ⟨dx, fs, h _ _ a, h _ _ b, c⟩
abbrev sLaw : Stmt := top 16
theorem scLaw : FnScope ["_law_script", "_law_source_here", "_law_rows", "_law_a", "_law_b", "_law_c", "_law_word", "_law_one", "_law_other", "_law_e"] ["_law_script"] (defScope sLaw) := ⟨rfl, rfl, rfl, by decide +kernel, rfl, by decide +kernel, by decide +kernel⟩
structure AllC (P : Program) (w : World) (K : PySem.W.Frag) (mg : Str → Option Value) (base : Heap) (Cs : Fin 8 → Addr) : Prop where
  c0 : CalE P w K mg base CX0 1 "InvalidProgram" (Cs 0) ["self", "line"] ["line"] g1 gV1 (spIni1 (Cs 0) "line")
  c1 : CalE P w K mg base CX0 1 "InvalidResult" (Cs 1) ["self", "line"] ["line"] g1 gV1 (spIni1 (Cs 1) "line")
  c2 : CalE P w K mg base CX0 1 "InvalidHistory" (Cs 2) ["self", "line"] ["line"] g1 gV1 (spIni1 (Cs 2) "line")
  c3 : CalE P w K mg base CX0 1 "UnknownProcedure" (Cs 3) ["self", "name"] ["name"] g1 gV1 (spIni1 (Cs 3) "name")
  c4 : CalE P w K mg base CX0 1 "UnknownPlace" (Cs 4) ["self", "place"] ["place"] g1 gV1 (spIni1 (Cs 4) "place")
  c5 : CalE P w K mg base CX0 1 "NotCached" (Cs 5) ["self", "name"] ["name"] g1 gV1 (spIni1 (Cs 5) "name")
  c6 : CalE P w K mg base CX0 1 "NoItem" (Cs 6) ["self", "path"] ["path"] g1 gV1 (spIni1 (Cs 6) "path")
  c7 : CalE P w K mg base CX0 1 "CallFailed" (Cs 7) ["self", "name", "path", "place"] ["place", "name", "path"] g3 gV3 (spIni3 (Cs 7))
def due (a b c : V) (j : Fin 8) : List V := if j.val = 7 then [a, b, c] else [a]
theorem ErA.put {H : Hp} {e L : Addr} {j : Fin 8} {xs ys zs : List V} (x : ErA Cs H e j xs) (h : H L = some (.lst ys)) : ErA Cs (upd H L (.lst zs)) e j xs := by
  obtain ⟨dx, fs, a, b, c⟩ := x
  refine ⟨dx, fs, ?_, ?_, c⟩
  · rw [upd_ne (fun q => by rw [q, h] at a; unfold exo at a; cases a)]; exact a
  · rw [upd_ne (fun q => by rw [q, h] at b; unfold exd at b; cases b)]; exact b
theorem mk1 {Hc : Hp} {e dx C : Addr} {n : Str} {v : V} (he : Hc e = none) (hdx : (upd Hc e (exo e C none)) dx = none) (ne : dx ≠ e) :
    Same Hc (upd (upd (upd Hc e (exo e C none)) dx (exd dx [(n, v)])) e (exo e C (some dx))) ∧
    (upd (upd (upd Hc e (exo e C none)) dx (exd dx [(n, v)])) e (exo e C (some dx))) e = some (exo e C (some dx)) ∧
    (upd (upd (upd Hc e (exo e C none)) dx (exd dx [(n, v)])) e (exo e C (some dx))) dx = some (exd dx [(n, v)]) :=
  ⟨((Same.new he).trans (Same.new hdx)).mut he, upd_same, by rw [upd_ne ne]; exact upd_same⟩
/-- the rows that are laid so far -/
def Rs (Cs : Fin 8 → Addr) (a b c : V) (H0 H : Hp) (L : Addr) (ts : List Addr) : Prop := Same H0 H ∧ H0 L = none ∧ H L = some (.lst (ts.map V.ref)) ∧
  ∀ i t, ts[i]? = some t → ∃ (j : Fin 8) (e e' : Addr), j.val = i ∧ H t = some (.tup [.str (word j), .ref e, .ref e']) ∧ ErA Cs H e j (due a b c j) ∧ ErA Cs H e' j (due a b c j)
theorem Rs.same {a b c : V} {H0 H H' : Hp} {L : Addr} {ts : List Addr} (x : Rs Cs a b c H0 H L ts) (h : Same H H') : Rs Cs a b c H0 H' L ts :=
  ⟨x.1.trans h, x.2.1, h _ _ x.2.2.1, fun i t ht => let ⟨j, e, e', q, r, u, v⟩ := x.2.2.2 i t ht; ⟨j, e, e', q, h _ _ r, u.same h, v.same h⟩⟩
theorem Rs.add {a b c : V} {H0 H Hm : Hp} {L t e e' : Addr} {ts : List Addr} {j : Fin 8} (x : Rs Cs a b c H0 H L ts) (s : Same H Hm) (hj : j.val = ts.length)
    (ht : Hm t = some (.tup [.str (word j), .ref e, .ref e'])) (h1 : ErA Cs Hm e j (due a b c j)) (h2 : ErA Cs Hm e' j (due a b c j)) :
    Hm L = some (.lst (ts.map V.ref)) ∧ Rs Cs a b c H0 (upd Hm L (.lst (ts.map V.ref ++ [.ref t]))) L (ts ++ [t]) := by
  obtain ⟨x1, x2, x3, x4⟩ := x.same s
  refine ⟨x3, x1.mut x2, x2, by rw [upd_same, List.map_append]; rfl, ?_⟩
  intro i u hu
  rw [List.getElem?_append] at hu
  split at hu
  · obtain ⟨k, f, f', q, r, y, z⟩ := x4 i u hu
    exact ⟨k, f, f', q, by rw [upd_ne (fun q => by rw [q, x3] at r; simp at r)]; exact r, y.put x3, z.put x3⟩
  · rename_i hi
    have hi : i = ts.length := by
      rcases Nat.lt_or_ge (i - ts.length) 1 with q | q
      · omega
      · rw [List.getElem?_eq_none (by simpa using q)] at hu; cases hu
    subst hi
    rw [Nat.sub_self] at hu
    obtain rfl : t = u := by simpa using hu
    exact ⟨j, e, e', hj, by rw [upd_ne (fun q => by rw [q, x3] at ht; simp at ht)]; exact ht, h1.put x3, h2.put x3⟩
theorem in_e : ∀ j : Fin 8, decide (V.str (word j) = V.str "failed") = decide (j.val = 7) := by decide +kernel
theorem oneAll : ∀ {ds : List PyData}, (∀ d ∈ ds, OneD d) → PyData.eqvAll ds ds = true ∧ PyData.canLayAll0 ds = true ∧ PyData.depthAll ds ≤ 1
  | [], _ => ⟨rfl, rfl, Nat.zero_le _⟩
  | d :: ds, h => by
    obtain ⟨a, b, c⟩ := h d List.mem_cons_self
    obtain ⟨x, y, z⟩ := oneAll fun e he => h e (List.mem_cons_of_mem _ he)
    refine ⟨?_, ?_, ?_⟩
    · show (PyData.eqv d d && PyData.eqvAll ds ds) = true
      rw [a, x]; rfl
    · show (PyData.canLay0 d && PyData.canLayAll0 ds) = true
      rw [b, y]; rfl
    · show max (PyData.depth d) (PyData.depthAll ds) ≤ 1
      exact Nat.max_le.mpr ⟨c, z⟩
theorem shO {ds : List PyData} (h : ∀ d ∈ ds, OneD d) : SeqAt.shaped (.list ds) = true := by
  obtain ⟨_, y, z⟩ := oneAll h
  refine Bool.and_eq_true_iff.mpr ⟨y, decide_eq_true ?_⟩
  show PyData.depthAll ds + 1 ≤ 64
  omega
theorem word_ok : ∀ j : Fin 8, ∀ z ∈ [word j], PyData.strOk z = true := by decide +kernel
theorem Rs.two {a b c : V} {H0 H : Hp} {L t0 t1 e0 f0 e1 f1 : Addr} (s : Same H0 H) (l0 : H0 L = none) (hL : H L = some (.lst [.ref t0, .ref t1]))
    (h0 : H t0 = some (.tup [.str "program", .ref e0, .ref f0])) (h1 : H t1 = some (.tup [.str "result", .ref e1, .ref f1]))
    (a0 : ErA Cs H e0 0 (due a b c 0)) (b0 : ErA Cs H f0 0 (due a b c 0)) (a1 : ErA Cs H e1 1 (due a b c 1)) (b1 : ErA Cs H f1 1 (due a b c 1)) : Rs Cs a b c H0 H L [t0, t1] := by
  refine ⟨s, l0, hL, fun i t ht => ?_⟩
  match i, ht with
  | 0, ht =>
    obtain rfl : t0 = t := by simpa using ht
    exact ⟨0, e0, f0, rfl, h0, a0, b0⟩
  | 1, ht =>
    obtain rfl : t1 = t := by simpa using ht
    exact ⟨1, e1, f1, rfl, h1, a1, b1⟩
  | i + 2, ht => simp at ht
theorem mk3 {Hc H' : Hp} {e dx C : Addr} (he : Hc e = none) (hdx : (upd Hc e (exo e C none)) dx = none) (h : ∀ b, b ≠ e → b ≠ dx → H' b = (upd Hc e (exo e C none)) b) : Same Hc H' := fun b o hb => by
  have n1 : b ≠ e := (ne_none he hb).symm
  have n2 : b ≠ dx := (ne_none hdx (Same.new he _ _ hb)).symm
  rw [h b n1 n2, upd_ne n1]; exact hb
structure Tab2 (K : PySem.W.Frag) (Cs : Fin 8 → Addr) (M : Addr) : Prop extends Tab K Cs where
  nf : NoF K Cs
  kitM : ∀ j, PySem.W.kitOne K (.ref (Cs j)) (.ref M) = some true
  kitV : ∀ j, PySem.W.kitOne K (.ref (Cs j)) (.type "ValueError") = some true
theorem ok_law {M : Addr} {f : Addr} {fd : FuncData} (F : Fun K "law" "law" sLaw f fd) (AC : AllC P w K mg base Cs) (T : Tab2 K Cs M) (mIsi : mg "isinstance" = none) (mValueError : mg "ValueError" = none)
    (mg_MidfallError : mg "MidfallError" = some (.ref M)) (c_source : Cal P w K mg base CX0 1 "_law_source" ["_law_script"] (spSource K)) (c_object : Cal P w K mg base CX0 2 "_law_object" ["_law_source_here"] (spObject K))
    (c_classes_of : Cal P w K mg base CX0 1 "_law_classes_of" ["_law_e"] (spClasses Cs)) (c_fields : Cal P w K mg base CX0 1 "_law_fields" ["_law_word", "_law_e"] (spFields Cs)) : FnOk P w K mg base CX0 3 f fd ["_law_script"] (spLaw K) := by
  refine F.ok scLaw (fun vs H Q E h => ?_) (fun cdv A outer s H vs Q E hr h => ?_)
  · obtain ⟨a, ns, rfl, _⟩ := h
    rfl
  · obtain ⟨sc, ns, rfl, hs, hl, k⟩ := h
    have hr_object := hr
    have hr_e := hr
    have hr_source := hr.mono (by omega : 1 ≤ 2)
    have hr_classes_of := hr_source
    have hr_fields := hr_source
    refine ⟨_, (pss_cons (ps_set (i := 1) scLaw.nd rfl (by first | exact Or.inl rfl | exact Or.inr rfl) (pe_cal c_source hr_source pass0 (pa_cons (pv 0) pa_nil)))
      (pss_cons (ps_par3 (i := 3) (j := 4) (l := 5) (by rfl) scLaw.nd rfl rfl rfl (by decide) (by decide) (by decide) rfl rfl rfl (pa_cons (pe_cal c_object hr_object pass0 (pa_cons (pv 1) pa_nil)) (pa_cons (pe_cal c_object hr_object pass0 (pa_cons (pv 1) pa_nil)) (pa_cons (pe_cal c_object hr_object pass0 (pa_cons (pv 1) pa_nil)) pa_nil))) (by rfl))
      (pss_cons (ps_set (i := 2) scLaw.nd rfl (by first | exact Or.inl rfl | exact Or.inr rfl) (pe_lst (pa_cons (pe_tup (pa_cons pe_str (pa_cons (pe_exP AC.c0 hr_e pass0 (pa_cons (pv 3) pa_nil)) (pa_cons (pe_exK AC.c0 hr_e pass0 (pk_cons (pv 3) pk_nil) (by decide)) pa_nil)))) (pa_cons (pe_tup (pa_cons pe_str (pa_cons (pe_exP AC.c1 hr_e pass0 (pa_cons (pv 3) pa_nil)) (pa_cons (pe_exK AC.c1 hr_e pass0 (pk_cons (pv 3) pk_nil) (by decide)) pa_nil)))) pa_nil))))
      (pss_cons (ps_expr (pe_bm PySem.F.plainAttrs_list PySem.F.slot_list_append PySem.F.type_list_append mt_append (pv 2) (pa_cons (pe_tup (pa_cons pe_str (pa_cons (pe_exP AC.c2 hr_e pass0 (pa_cons (pv 3) pa_nil)) (pa_cons (pe_exK AC.c2 hr_e pass0 (pk_cons (pv 3) pk_nil) (by decide)) pa_nil)))) pa_nil)))
      (pss_cons (ps_expr (pe_bm PySem.F.plainAttrs_list PySem.F.slot_list_append PySem.F.type_list_append mt_append (pv 2) (pa_cons (pe_tup (pa_cons pe_str (pa_cons (pe_exP AC.c3 hr_e pass0 (pa_cons (pv 3) pa_nil)) (pa_cons (pe_exK AC.c3 hr_e pass0 (pk_cons (pv 3) pk_nil) (by decide)) pa_nil)))) pa_nil)))
      (pss_cons (ps_expr (pe_bm PySem.F.plainAttrs_list PySem.F.slot_list_append PySem.F.type_list_append mt_append (pv 2) (pa_cons (pe_tup (pa_cons pe_str (pa_cons (pe_exP AC.c4 hr_e pass0 (pa_cons (pv 3) pa_nil)) (pa_cons (pe_exK AC.c4 hr_e pass0 (pk_cons (pv 3) pk_nil) (by decide)) pa_nil)))) pa_nil)))
      (pss_cons (ps_expr (pe_bm PySem.F.plainAttrs_list PySem.F.slot_list_append PySem.F.type_list_append mt_append (pv 2) (pa_cons (pe_tup (pa_cons pe_str (pa_cons (pe_exP AC.c5 hr_e pass0 (pa_cons (pv 3) pa_nil)) (pa_cons (pe_exK AC.c5 hr_e pass0 (pk_cons (pv 3) pk_nil) (by decide)) pa_nil)))) pa_nil)))
      (pss_cons (ps_expr (pe_bm PySem.F.plainAttrs_list PySem.F.slot_list_append PySem.F.type_list_append mt_append (pv 2) (pa_cons (pe_tup (pa_cons pe_str (pa_cons (pe_exP AC.c6 hr_e pass0 (pa_cons (pv 3) pa_nil)) (pa_cons (pe_exK AC.c6 hr_e pass0 (pk_cons (pv 3) pk_nil) (by decide)) pa_nil)))) pa_nil)))
      (pss_cons (ps_expr (pe_bm PySem.F.plainAttrs_list PySem.F.slot_list_append PySem.F.type_list_append mt_append (pv 2) (pa_cons (pe_tup (pa_cons pe_str (pa_cons (pe_exP AC.c7 hr_e pass0 (pa_cons (pv 3) (pa_cons (pv 4) (pa_cons (pv 5) pa_nil)))) (pa_cons (pe_exK AC.c7 hr_e pass0 (pk_cons (pv 5) (pk_cons (pv 3) (pk_cons (pv 4) pk_nil))) (by decide)) pa_nil)))) pa_nil)))
      (pss_cons (ps_for PassesOwn.never rfl (pi_list (pv 2)) (pg_tup rfl (pgs_cons (pg_name (i := 6) scLaw.nd rfl (by first | exact Or.inl rfl | exact Or.inr rfl)) (pgs_cons (pg_name (i := 7) scLaw.nd rfl (by first | exact Or.inl rfl | exact Or.inr rfl)) (pgs_cons (pg_name (i := 8) scLaw.nd rfl (by first | exact Or.inl rfl | exact Or.inr rfl)) pgs_nil))))
        (pss_one (ps_for PassesOwn.never rfl (pi_tup (pe_tup (pa_cons (pv 7) (pa_cons (pv 8) pa_nil)))) (pg_name (i := 9) scLaw.nd rfl (by first | exact Or.inl rfl | exact Or.inr rfl))
          (pss_cons (ps_if (PW.pt (pw_or (pt_not (pt_val (pe_callB (isO K) (by rfl) mIsi (by decide +kernel) (pa_cons (pv 9) (pa_cons (pe_glob (v := .ref _) rfl mg_MidfallError rfl) pa_nil))))) (pw_or (pt_not (pt_val (pe_callB (isO K) (by rfl) mIsi (by decide +kernel) (pa_cons (pv 9) (pa_cons (pe_bltn (v := .ty "ValueError") (by rfl) mValueError (by decide +kernel) rfl) pa_nil))))) (pw_or1 (pt_cmpR (neD K hr) (pe_cal c_classes_of hr_classes_of pass0 (pa_cons (pv 9) pa_nil)) (pe_lst (pa_cons (pv 6) pa_nil)) (nomark _))))))
            (pss_one (ps_ret pe_bl)) pss_nil)
          (pss_one (ps_if (pt_cmpR (neD K hr) (pe_cal c_fields hr_fields pass0 (pa_cons (pv 6) (pa_cons (pv 9) pa_nil))) (pe_ifExp (pt_cmpR op_eq (pv 6) pe_str (nomark _)) (pe_lst (pa_cons (pv 3) (pa_cons (pv 4) (pa_cons (pv 5) pa_nil)))) (pe_lst (pa_cons (pv 3) pa_nil))) (nomark _))
            (pss_one (ps_ret pe_bl)) pss_nil))))))
      (pss_one (ps_ret pe_bl)))))))))))), ?_⟩
    refine ⟨_, rfl, sc, ns, rfl, hs, hl, fun p H1 hp s1 S1 => ?_⟩
    refine ⟨_, rfl, p, 999999994, rfl, S1, fun a H2 oa k2 S2 => ?_⟩
    refine ⟨_, rfl, p, 999999988, rfl, S2, fun b H3 ob k3 S3 => ?_⟩
    refine ⟨_, rfl, p, 999999982, rfl, S3, fun c H4 oc k4 S4 => ?_⟩
    refine ⟨_, _, _, rfl, ?_⟩
    refine ⟨_, rfl, (by show 1 ≤ 1000; decide), fun e0 he0 => ⟨e0, a, rfl, upd_same, fun d0 hd0 n0 => ⟨rfl, ?_⟩⟩⟩
    obtain ⟨m0, p0, q0⟩ := mk1 (n := "line") (v := a) he0 hd0 n0
    refine ⟨_, rfl, rfl, fun f0 hf0 => ⟨f0, a, rfl, upd_same, fun g0 hg0 o0 => ⟨rfl, ?_⟩⟩⟩
    obtain ⟨m'0, p'0, q'0⟩ := mk1 (n := "line") (v := a) hf0 hg0 o0
    refine ⟨(by show 3 ≤ sizeLine; decide), fun t0 ht0 => ?_⟩
    have y0 : Same _ _ := Same.new (o := .tup [.str "program", .ref e0, .ref f0]) ht0
    have E0 : ErA Cs _ e0 0 (due a b c 0) := ErA.same ⟨d0, _, p0, q0, .inl ⟨by decide, a, rfl, rfl⟩⟩ (m'0.trans y0)
    have G0 : ErA Cs _ f0 0 (due a b c 0) := ErA.same ⟨g0, _, p'0, q'0, .inl ⟨by decide, a, rfl, rfl⟩⟩ y0
    have z0 := (m0.trans m'0).trans y0
    refine ⟨_, rfl, (by show 1 ≤ 1000; decide), fun e1 he1 => ⟨e1, a, rfl, upd_same, fun d1 hd1 n1 => ⟨rfl, ?_⟩⟩⟩
    obtain ⟨m1, p1, q1⟩ := mk1 (n := "line") (v := a) he1 hd1 n1
    refine ⟨_, rfl, rfl, fun f1 hf1 => ⟨f1, a, rfl, upd_same, fun g1 hg1 o1 => ⟨rfl, ?_⟩⟩⟩
    obtain ⟨m'1, p'1, q'1⟩ := mk1 (n := "line") (v := a) hf1 hg1 o1
    refine ⟨(by show 3 ≤ sizeLine; decide), fun t1 ht1 => ?_⟩
    have y1 : Same _ _ := Same.new (o := .tup [.str "result", .ref e1, .ref f1]) ht1
    have E1 : ErA Cs _ e1 1 (due a b c 1) := ErA.same ⟨d1, _, p1, q1, .inl ⟨by decide, a, rfl, rfl⟩⟩ (m'1.trans y1)
    have G1 : ErA Cs _ f1 1 (due a b c 1) := ErA.same ⟨g1, _, p'1, q'1, .inl ⟨by decide, a, rfl, rfl⟩⟩ y1
    have z1 := (m1.trans m'1).trans y1
    refine ⟨(by show 2 ≤ sizeLine; decide), fun L hL => ?_⟩
    have yL := Same.new (o := .lst [.ref t0, .ref t1]) hL
    have R1 : Rs Cs a b c H4 _ L [t0, t1] := Rs.two ((z0.trans z1).trans yL) ((z0.trans z1).free hL) upd_same ((z1.trans yL) _ _ upd_same) (yL _ _ upd_same) (E0.same (z1.trans yL)) (G0.same (z1.trans yL)) (E1.same yL) (G1.same yL)
    refine ⟨_, rfl, .inl ⟨rfl, _, .of R1.2.2.1⟩, _, rfl, (by show 1 ≤ 1000; decide), fun e2 he2 => ⟨e2, a, rfl, upd_same, fun d2 hd2 n2 => ⟨rfl, ?_⟩⟩⟩
    obtain ⟨m2, p2, q2⟩ := mk1 (n := "line") (v := a) he2 hd2 n2
    refine ⟨_, rfl, rfl, fun f2 hf2 => ⟨f2, a, rfl, upd_same, fun g2 hg2 o2 => ⟨rfl, ?_⟩⟩⟩
    obtain ⟨m'2, p'2, q'2⟩ := mk1 (n := "line") (v := a) hf2 hg2 o2
    refine ⟨(by show 3 ≤ sizeLine; decide), fun t2 ht2 => ?_⟩
    have y2 : Same _ _ := Same.new (o := .tup [.str "history", .ref e2, .ref f2]) ht2
    have E2 : ErA Cs _ e2 2 (due a b c 2) := ErA.same ⟨d2, _, p2, q2, .inl ⟨by decide, a, rfl, rfl⟩⟩ (m'2.trans y2)
    have G2 : ErA Cs _ f2 2 (due a b c 2) := ErA.same ⟨g2, _, p'2, q'2, .inl ⟨by decide, a, rfl, rfl⟩⟩ y2
    have z2 := (m2.trans m'2).trans y2
    obtain ⟨l2, R2⟩ := R1.add (j := 2) z2 rfl upd_same E2 G2
    refine ⟨L, _, _, rfl, rfl, l2, (by show 2 < sizeLine; decide), ?_⟩
    refine ⟨_, rfl, .inl ⟨rfl, _, .of R2.2.2.1⟩, _, rfl, (by show 1 ≤ 1000; decide), fun e3 he3 => ⟨e3, a, rfl, upd_same, fun d3 hd3 n3 => ⟨rfl, ?_⟩⟩⟩
    obtain ⟨m3, p3, q3⟩ := mk1 (n := "name") (v := a) he3 hd3 n3
    refine ⟨_, rfl, rfl, fun f3 hf3 => ⟨f3, a, rfl, upd_same, fun g3 hg3 o3 => ⟨rfl, ?_⟩⟩⟩
    obtain ⟨m'3, p'3, q'3⟩ := mk1 (n := "name") (v := a) hf3 hg3 o3
    refine ⟨(by show 3 ≤ sizeLine; decide), fun t3 ht3 => ?_⟩
    have y3 : Same _ _ := Same.new (o := .tup [.str "procedure", .ref e3, .ref f3]) ht3
    have E3 : ErA Cs _ e3 3 (due a b c 3) := ErA.same ⟨d3, _, p3, q3, .inr (.inl ⟨.inl rfl, a, rfl, rfl⟩)⟩ (m'3.trans y3)
    have G3 : ErA Cs _ f3 3 (due a b c 3) := ErA.same ⟨g3, _, p'3, q'3, .inr (.inl ⟨.inl rfl, a, rfl, rfl⟩)⟩ y3
    have z3 := (m3.trans m'3).trans y3
    obtain ⟨l3, R3⟩ := R2.add (j := 3) z3 rfl upd_same E3 G3
    refine ⟨L, _, _, rfl, rfl, l3, (by show 3 < sizeLine; decide), ?_⟩
    refine ⟨_, rfl, .inl ⟨rfl, _, .of R3.2.2.1⟩, _, rfl, (by show 1 ≤ 1000; decide), fun e4 he4 => ⟨e4, a, rfl, upd_same, fun d4 hd4 n4 => ⟨rfl, ?_⟩⟩⟩
    obtain ⟨m4, p4, q4⟩ := mk1 (n := "place") (v := a) he4 hd4 n4
    refine ⟨_, rfl, rfl, fun f4 hf4 => ⟨f4, a, rfl, upd_same, fun g4 hg4 o4 => ⟨rfl, ?_⟩⟩⟩
    obtain ⟨m'4, p'4, q'4⟩ := mk1 (n := "place") (v := a) hf4 hg4 o4
    refine ⟨(by show 3 ≤ sizeLine; decide), fun t4 ht4 => ?_⟩
    have y4 : Same _ _ := Same.new (o := .tup [.str "place", .ref e4, .ref f4]) ht4
    have E4 : ErA Cs _ e4 4 (due a b c 4) := ErA.same ⟨d4, _, p4, q4, .inr (.inr (.inl ⟨rfl, a, rfl, rfl⟩))⟩ (m'4.trans y4)
    have G4 : ErA Cs _ f4 4 (due a b c 4) := ErA.same ⟨g4, _, p'4, q'4, .inr (.inr (.inl ⟨rfl, a, rfl, rfl⟩))⟩ y4
    have z4 := (m4.trans m'4).trans y4
    obtain ⟨l4, R4⟩ := R3.add (j := 4) z4 rfl upd_same E4 G4
    refine ⟨L, _, _, rfl, rfl, l4, (by show 4 < sizeLine; decide), ?_⟩
    refine ⟨_, rfl, .inl ⟨rfl, _, .of R4.2.2.1⟩, _, rfl, (by show 1 ≤ 1000; decide), fun e5 he5 => ⟨e5, a, rfl, upd_same, fun d5 hd5 n5 => ⟨rfl, ?_⟩⟩⟩
    obtain ⟨m5, p5, q5⟩ := mk1 (n := "name") (v := a) he5 hd5 n5
    refine ⟨_, rfl, rfl, fun f5 hf5 => ⟨f5, a, rfl, upd_same, fun g5 hg5 o5 => ⟨rfl, ?_⟩⟩⟩
    obtain ⟨m'5, p'5, q'5⟩ := mk1 (n := "name") (v := a) hf5 hg5 o5
    refine ⟨(by show 3 ≤ sizeLine; decide), fun t5 ht5 => ?_⟩
    have y5 : Same _ _ := Same.new (o := .tup [.str "cached", .ref e5, .ref f5]) ht5
    have E5 : ErA Cs _ e5 5 (due a b c 5) := ErA.same ⟨d5, _, p5, q5, .inr (.inl ⟨.inr rfl, a, rfl, rfl⟩)⟩ (m'5.trans y5)
    have G5 : ErA Cs _ f5 5 (due a b c 5) := ErA.same ⟨g5, _, p'5, q'5, .inr (.inl ⟨.inr rfl, a, rfl, rfl⟩)⟩ y5
    have z5 := (m5.trans m'5).trans y5
    obtain ⟨l5, R5⟩ := R4.add (j := 5) z5 rfl upd_same E5 G5
    refine ⟨L, _, _, rfl, rfl, l5, (by show 5 < sizeLine; decide), ?_⟩
    refine ⟨_, rfl, .inl ⟨rfl, _, .of R5.2.2.1⟩, _, rfl, (by show 1 ≤ 1000; decide), fun e6 he6 => ⟨e6, a, rfl, upd_same, fun d6 hd6 n6 => ⟨rfl, ?_⟩⟩⟩
    obtain ⟨m6, p6, q6⟩ := mk1 (n := "path") (v := a) he6 hd6 n6
    refine ⟨_, rfl, rfl, fun f6 hf6 => ⟨f6, a, rfl, upd_same, fun g6 hg6 o6 => ⟨rfl, ?_⟩⟩⟩
    obtain ⟨m'6, p'6, q'6⟩ := mk1 (n := "path") (v := a) hf6 hg6 o6
    refine ⟨(by show 3 ≤ sizeLine; decide), fun t6 ht6 => ?_⟩
    have y6 : Same _ _ := Same.new (o := .tup [.str "item", .ref e6, .ref f6]) ht6
    have E6 : ErA Cs _ e6 6 (due a b c 6) := ErA.same ⟨d6, _, p6, q6, .inr (.inr (.inr (.inl ⟨rfl, a, rfl, rfl⟩)))⟩ (m'6.trans y6)
    have G6 : ErA Cs _ f6 6 (due a b c 6) := ErA.same ⟨g6, _, p'6, q'6, .inr (.inr (.inr (.inl ⟨rfl, a, rfl, rfl⟩)))⟩ y6
    have z6 := (m6.trans m'6).trans y6
    obtain ⟨l6, R6⟩ := R5.add (j := 6) z6 rfl upd_same E6 G6
    refine ⟨L, _, _, rfl, rfl, l6, (by show 6 < sizeLine; decide), ?_⟩
    refine ⟨_, rfl, .inl ⟨rfl, _, .of R6.2.2.1⟩, _, rfl, _, rfl, _, rfl, (by show 3 ≤ 1000; decide), fun e7 he7 => ⟨e7, a, b, c, rfl, upd_same, fun d7 hd7 n7 Ha q7 p7 x7 => ⟨rfl, ?_⟩⟩⟩
    have m7 := mk3 he7 hd7 x7
    refine ⟨_, rfl, _, rfl, _, rfl, rfl, fun f7 hf7 => ⟨f7, a, b, c, rfl, upd_same, fun g7 hg7 o7 Hb q'7 p'7 x'7 => ⟨rfl, ?_⟩⟩⟩
    have m'7 := mk3 hf7 hg7 x'7
    refine ⟨(by show 3 ≤ sizeLine; decide), fun t7 ht7 => ?_⟩
    have y7 : Same _ _ := Same.new (o := .tup [.str "failed", .ref e7, .ref f7]) ht7
    have E7 : ErA Cs _ e7 7 (due a b c 7) := ErA.same ⟨d7, _, p7, q7, .inr (.inr (.inr (.inr ⟨rfl, a, b, c, rfl, rfl, rfl, rfl⟩)))⟩ (m'7.trans y7)
    have G7 : ErA Cs _ f7 7 (due a b c 7) := ErA.same ⟨g7, _, p'7, q'7, .inr (.inr (.inr (.inr ⟨rfl, a, b, c, rfl, rfl, rfl, rfl⟩)))⟩ y7
    have z7 := (m7.trans m'7).trans y7
    obtain ⟨l7, R7⟩ := R6.add (j := 7) z7 rfl upd_same E7 G7
    refine ⟨L, _, _, rfl, rfl, l7, (by show 7 < sizeLine; decide), ?_⟩
    have R8 : Rs Cs a b c H4 _ L [t0, t1, t2, t3, t4, t5, t6, t7] := R7
    have lp2 : ∃ xs, H2 p = some (.lst xs) := let ⟨_, _, _, e, _⟩ := S2; ⟨_, e⟩
    have lp3 : ∃ xs, H3 p = some (.lst xs) := let ⟨_, _, _, e, _⟩ := S3; ⟨_, e⟩
    have oa4 : ObP H4 a := (oa.kp k3 lp2.choose_spec).kp k4 lp3.choose_spec
    have ob4 : ObP H4 b := ob.kp k4 lp3.choose_spec
    refine ⟨_, rfl, L, rfl, ⟨_, .of R8.2.2.1⟩, ?_⟩
    refine for_it walk_list (fun i σ H' => ∃ (v6 v7 v8 v9 : Option V), σ = [some (.ref sc), some (.ref p), some (.ref L), some a, some b, some c, v6, v7, v8, v9] ∧ Rs Cs a b c H4 H' L [t0, t1, t2, t3, t4, t5, t6, t7]) ⟨none, none, none, none, rfl, R8⟩ (fun i σ H' _ q => .of q.choose_spec.choose_spec.choose_spec.choose_spec.2.2.2.1) ?_ ?_
    · rintro i x σ H5 H6 hi ⟨v6, v7, v8, v9, rfl, R⟩ ⟨rfl, hx⟩
      rw [List.getElem?_map] at hx
      obtain ⟨t, ht, rfl⟩ := Option.map_eq_some_iff.mp hx
      obtain ⟨j, e, f, hj, h6, e1, e2⟩ := R.2.2.2 i t ht
      refine ⟨t, _, rfl, .of h6, rfl, _, _, rfl, _, _, rfl, _, _, rfl, rfl, ?_⟩
      refine ⟨_, rfl, _, rfl, (by show 2 ≤ sizeLine; decide), fun u hu => ⟨u, rfl, ⟨_, .of upd_same⟩, ?_⟩⟩
      refine for_it walk_tup (fun i σ H' => ∃ v9 : Option V, σ = [some (.ref sc), some (.ref p), some (.ref L), some a, some b, some c, some (.str (word j)), some (.ref e), some (.ref f), v9] ∧ Same (upd H6 u (.tup [.ref e, .ref f])) H') ⟨v9, rfl, Same.refl _⟩ (fun i σ H' _ q => .of (q.choose_spec.2 _ _ upd_same)) ?_ ?_
      · rintro i2 x σ H7 H8 hi2 ⟨v9', rfl, s7⟩ ⟨rfl, hx2⟩
        have sU := (Same.new (o := .tup [.ref e, .ref f]) hu).trans s7
        have exg : ∃ g, x = V.ref g ∧ ErA Cs H8 g j (due a b c j) := by
          match i2, hx2 with
          | 0, hx2 => exact ⟨e, (Option.some.inj hx2).symm, e1.same sU⟩
          | 1, hx2 => exact ⟨f, (Option.some.inj hx2).symm, e2.same sU⟩
          | i2 + 2, hx2 => simp at hx2
        obtain ⟨g, rfl, dx, fs, g1, g2, fv⟩ := exg
        refine ⟨_, rfl, g, _, dx, fs, _, _, _, rfl, g1, g2, T.xc j, (fun _ h => h), T.kitM j, _, rfl, iteF ?_⟩
        refine ⟨_, rfl, g, _, dx, fs, _, _, _, rfl, g1, g2, T.xc j, (fun _ h => h), T.kitV j, _, rfl, iteF ?_⟩
        refine ⟨_, rfl, g, dx, j, fs, rfl, g1, g2, fun q1 H9 h9 s9 => ⟨_, rfl, (by show 1 ≤ sizeLine; decide), fun q2 hq2 => ?_⟩⟩
        refine ⟨_, _, .lst (.of ((Same.new hq2) _ _ h9)) (dpS [word j]), .lst (.of upd_same) (dpS [word j]), shL (word_ok j), shL (word_ok j), _, rfl, ?_⟩
        show if (!PyData.eqvAll ([word j].map PyData.str) ([word j].map PyData.str)) = true then _ else _
        rw [eqvS, decide_eq_true rfl]
        refine iteF ?_
        have s10 := s9.trans (Same.new (o := .lst [.str (word j)]) hq2)
        refine ⟨_, rfl, _, rfl, g, dx, j, fs, _, rfl, s10 _ _ g1, s10 _ _ g2, fv, fun q3 H11 h11 s11 => ?_⟩
        have sZ := ((R.1.trans sU).trans s10).trans s11
        refine ⟨_, rfl, rfl, _, rfl, ?_⟩
        show if decide (V.str (word j) = V.str "failed") = true then _ else _
        rw [in_e]
        by_cases q : j.val = 7
        · rw [decide_eq_true q]
          refine iteT ⟨_, rfl, _, rfl, _, rfl, (by show 3 ≤ sizeLine; decide), fun q4 hq4 => ?_⟩
          have sY := sZ.trans (Same.new (o := .lst [a, b, c]) hq4)
          have h12 := (Same.new (o := .lst [a, b, c]) hq4) _ _ h11
          rw [due, if_pos q] at h12
          obtain ⟨da, pa, xa⟩ := (oa4.same sY).dat (K := K)
          obtain ⟨db, pb, xb⟩ := (ob4.same sY).dat (K := K)
          obtain ⟨dc, pc, xc⟩ := (oc.same sY).dat (K := K)
          have al : ∀ d ∈ [da, db, dc], OneD d := by
            intro d hd
            simp only [List.mem_cons, List.not_mem_nil, or_false] at hd
            rcases hd with rfl | rfl | rfl <;> assumption
          refine ⟨_, _, .lst (.of h12) (.cons pa (.cons pb (.cons pc .nil))), .lst (.of upd_same) (.cons pa (.cons pb (.cons pc .nil))), shO al, shO al, _, rfl, ?_⟩
          show if (!PyData.eqvAll [da, db, dc] [da, db, dc]) = true then _ else _
          rw [(oneAll al).1]
          refine iteF ?_
          exact ⟨_, rfl, ((s7.trans s10).trans s11).trans (Same.new hq4)⟩
        · rw [decide_eq_false q]
          refine iteF ⟨_, rfl, (by show 1 ≤ sizeLine; decide), fun q4 hq4 => ?_⟩
          have sY := sZ.trans (Same.new (o := .lst [a]) hq4)
          have h12 := (Same.new (o := .lst [a]) hq4) _ _ h11
          rw [due, if_neg q] at h12
          obtain ⟨da, pa, xa⟩ := (oa4.same sY).dat (K := K)
          have al : ∀ d ∈ [da], OneD d := by
            intro d hd
            rw [List.mem_singleton.mp hd]; exact xa
          refine ⟨_, _, .lst (.of h12) (.cons pa .nil), .lst (.of upd_same) (.cons pa .nil), shO al, shO al, _, rfl, ?_⟩
          show if (!PyData.eqvAll [da] [da]) = true then _ else _
          rw [(oneAll al).1]
          refine iteF ?_
          exact ⟨_, rfl, ((s7.trans s10).trans s11).trans (Same.new hq4)⟩
      · rintro σ H7 ⟨v9', rfl, s7⟩
        exact ⟨_, _, _, v9', rfl, R.same ((Same.new hu).trans s7)⟩
    · rintro σ H5 ⟨v6, v7, v8, v9, rfl, R⟩
      exact k _
end
end Mf
namespace Mf
open PySem L2
/-! ### the head -/
abbrev vTail : List Value := [.type "ValueError", .type "Exception", .type "BaseException", .type "object"]
/-- what stands in the fragment of an error class -/
structure ClF (K : PySem.W.Frag) (M C : Addr) (nm : Str) : Prop where
  ex : ∃ q N bs sn sub ab col dd k0 k1 k2 k3 k5, K.lookup C = some (excClassObj nm q C N bs (.ref M :: vTail) true sn sub ab col dd k0 k1 k2 k3 k5 "ValueError.__new__")
  sa : PySem.W.findIn K (.ref C) "__setattr__" = some (some (.builtin "object.__setattr__"))
  ty : PySem.W.typeIn K (.ref C) = some (.type "type")
  kc : PySem.W.keepIn K (.ref C) = true
  hg : PySem.W.findIn K (.ref C) "__getattribute__" = some (some (.builtin "BaseException.__getattribute__"))
  hk : PySem.W.findIn K (.ref C) "__getattr__" = some none
  ha : PySem.W.findIn K (.ref C) "__class__" = some (some (.builtin "object.__class__"))
  hd : PySem.W.hasDictIn K C = true
section
variable {K : PySem.W.Frag} {M C C' : Addr} {nm nm' : Str} {P : Program} {w : World} {mg : Str → Option Value} {base : Heap} {CX : CXT} {k : Nat} {x qual : Str} {st : Stmt} {f : Addr} {ps ks : List Str} {sp : Sp} {g : List Value → List Value → List Value} {gV : List V → List V → List V}
theorem ClF.cls (D : ClF K M C nm) : ∃ cd, PySem.W.clsIn K C = some cd ∧ cd.mro = .ref C :: .ref M :: vTail := by
  obtain ⟨q, N, bs, sn, sub, ab, col, dd, k0, k1, k2, k3, k5, l⟩ := D.ex
  refine ⟨{ hasDict := true, mro := .ref C :: .ref M :: vTail, name := nm, ns := N, bases := bs, qualname := q, slotNames := sn, abstract := ab, subclasses := sub, collection := col }, ?_, rfl⟩
  unfold PySem.W.clsIn
  rw [l]
theorem ClF.mro (D : ClF K M C nm) (b : Value) : PySem.W.mroIn K C b = some ((Value.ref C :: .ref M :: vTail).contains b) := by
  obtain ⟨cd, h, e⟩ := D.cls
  unfold PySem.W.mroIn
  rw [h]
  show (if cd.mro.isEmpty = true then none else some (cd.mro.contains b)) = _
  rw [e]; rfl
theorem ClF.oex (D : ClF K M C nm) : OexC K C := by
  obtain ⟨q, N, bs, sn, sub, ab, col, dd, k0, k1, k2, k3, k5, l⟩ := D.ex
  exact ⟨⟨_, _, _, _, _, _, _, _, _, _, _, _, _, _, _, l, rfl⟩, D.sa, (D.mro _).trans (by simp), D.ty, D.kc⟩
theorem ClF.exc (D : ClF K M C nm) (hn : PySem.W.specialIn K (.builtin "object.__class__") "__get__" = some (some (.builtin "getset_descriptor.__get__"))) (ht : PySem.W.takesIn K (.builtin "object.__class__") = some true) : ExcC K C :=
  ⟨D.hg, D.hk, (D.mro _).trans (by simp), D.hd, D.ha, hn, ht, (D.mro _).trans (by simp)⟩
theorem ClF.xf (D : ClF K M C nm) : XfC K C := ⟨D.hg, D.hk, (D.mro _).trans (by simp), D.hd⟩
theorem ClF.ne (D : ClF K M C nm) (D' : ClF K M C' nm') (h : nm ≠ nm') : C ≠ C' := by
  intro e
  subst e
  obtain ⟨q, N, bs, sn, sub, ab, col, dd, k0, k1, k2, k3, k5, l⟩ := D.ex
  obtain ⟨q', N', bs', sn', sub', ab', col', dd', k0', k1', k2', k3', k5', l'⟩ := D'.ex
  rw [l] at l'
  injection l' with l'
  injection l' with _ _ l' _
  injection l' with l'
  injection l' with l' _
  exact h l'
theorem ClF.kitS (D : ClF K M C nm) (D' : ClF K M C' nm') (n : C ≠ C') (m : C' ≠ M) : PySem.W.kitOne K (.ref C) (.ref C') = some false := by
  obtain ⟨cd, h, _⟩ := D'.cls
  unfold PySem.W.kitOne PySem.W.kitCls
  rw [if_neg (by simpa using n)]
  show (if ((PySem.W.clsIn K C').isSome && PySem.W.typeIn K (.ref C') == some (.type "type")) = true then PySem.W.mroIn K C (.ref C') else none) = some false
  rw [if_pos (by rw [h, D'.ty]; rfl), D.mro]
  simp [Ne.symm n, m]
theorem ClF.kitM (D : ClF K M C nm) (i : PySem.W.isClsIn K M = true) (t : PySem.W.typeIn K (.ref M) = some (.type "type")) : PySem.W.kitOne K (.ref C) (.ref M) = some true := by
  have i' : (PySem.W.clsIn K M).isSome = true := i
  unfold PySem.W.kitOne PySem.W.kitCls
  by_cases e : (Value.ref C == Value.ref M) = true
  · rw [if_pos e]
  · rw [if_neg e]
    show (if ((PySem.W.clsIn K M).isSome && PySem.W.typeIn K (.ref M) == some (.type "type")) = true then PySem.W.mroIn K C (.ref M) else none) = some true
    rw [if_pos (by rw [i', t]; rfl), D.mro]
    simp
theorem ClF.kitV (D : ClF K M C nm) : PySem.W.kitOne K (.ref C) (.type "ValueError") = some true := by
  unfold PySem.W.kitOne PySem.W.kitCls
  rw [if_neg (by simp)]
  show (if PySem.W.kitMeta "ValueError" = true then PySem.W.mroIn K C (.type "ValueError") else none) = some true
  rw [if_pos (by decide +kernel), D.mro]
  simp
theorem MetF.calE (D : MetF K C "__init__" qual st f) (T : OexC K C) (hm : mg x = some (.ref C)) (hb : BindP "__init__" qual st ps)
    (hk : ∀ (kV doc pm : Value) (an : Option Addr) (cdv ct : Value) (us ws : List Value), us.length = 1 → ws.length = ks.length →
      bindArgs (PySem.W.fnOf "__init__" qual (defArgs st) (defBody st) (defScope st) .none kV doc pm an cdv ct) ⟨us, ks.zip ws⟩ = pure (ps.zip (g us ws)))
    (rel : ∀ {vs : List V} {us : List Value} {zs : List V} {ws : List Value}, Vals vs us → Vals zs ws → Vals (gV vs zs) (g us ws))
    (ok : ∀ fd, Fun K "__init__" qual st f fd → FnOk P w K mg base CX k f fd ps sp) : CalE P w K mg base CX k x C ps ks g gV sp := by
  obtain ⟨oc, od, sl, kV, dc, pm, an, cd, ct, a, l, c, q, i, n⟩ := D.ex
  have F := fun_mk (st := st) l c q
  exact ⟨⟨f, _, T, a, beq_iff_eq.mp i, ok _ F, hm, F.binds hb, ⟨fun s us ws _ h1 h2 => .of_eq (hk kV dc pm an cd ct us ws h1 h2), rel⟩⟩⟩
theorem rel1 {vs : List V} {us : List Value} {zs : List V} {ws : List Value} (x : Vals vs us) (y : Vals zs ws) : Vals (gV1 vs zs) (g1 us ws) := Vals.append x y
theorem rel3 {vs : List V} {us : List Value} {zs : List V} {ws : List Value} (x : Vals vs us) (y : Vals zs ws) : Vals (gV3 vs zs) (g3 us ws) := by
  refine Vals.append x ?_
  cases y with
  | nil => exact .nil
  | cons a b => exact Vals.append b (.cons a .nil)
end
theorem all8 {Q : Fin 8 → Prop} (a0 : Q 0) (a1 : Q 1) (a2 : Q 2) (a3 : Q 3) (a4 : Q 4) (a5 : Q 5) (a6 : Q 6) (a7 : Q 7) : ∀ j, Q j := by
  rintro ⟨n, h⟩
  match n, h with
  | 0, _ => exact a0
  | 1, _ => exact a1
  | 2, _ => exact a2
  | 3, _ => exact a3
  | 4, _ => exact a4
  | 5, _ => exact a5
  | 6, _ => exact a6
  | 7, _ => exact a7
  | n + 8, h => omega
def clNames : List Str := ["InvalidProgram", "InvalidResult", "InvalidHistory", "UnknownProcedure", "UnknownPlace", "NotCached", "NoItem", "CallFailed"]
theorem clNames_ne : ∀ i j : Fin 8, i ≠ j → clNames.getD i.val "" ≠ clNames.getD j.val "" := by decide +kernel
theorem four {K : PySem.W.Frag} {C : Addr} (a : PySem.W.findIn K (.ref C) "line" = some none) (b : PySem.W.findIn K (.ref C) "name" = some none) (c : PySem.W.findIn K (.ref C) "place" = some none) (d : PySem.W.findIn K (.ref C) "path" = some none) :
    ∀ n ∈ [("line" : Str), "name", "place", "path"], PySem.W.findIn K (.ref C) n = some none := by
  intro n hn
  simp only [List.mem_cons, List.not_mem_nil, or_false] at hn
  rcases hn with rfl | rfl | rfl | rfl <;> assumption
theorem all_mk {l : PySem.W.OpenLaw} {w : World} {K : PySem.W.Frag} {h : Heap} {mg : Str → Option Value} {fa M C0 C1 C2 C3 C4 C5 C6 C7 : Addr} (X : K.In h) (G : h.Ns mainGlobals mg) (hfa : mg "law" = some (.ref fa))
    {fSource fDraw fObject fClasses_of fFields fLaw fI0 fI1 fI2 fI3 fI4 fI5 fI6 fI7 : Addr}
    {ocSource : Value} {odSource : Option Addr} {slSource : Array (Option Value)} {kVSource dcSource pmSource : Value} {anSource : Option Addr} {cdSource ctSource : Value}
    {ocDraw : Value} {odDraw : Option Addr} {slDraw : Array (Option Value)} {kVDraw dcDraw pmDraw : Value} {anDraw : Option Addr} {cdDraw ctDraw : Value}
    {ocObject : Value} {odObject : Option Addr} {slObject : Array (Option Value)} {kVObject dcObject pmObject : Value} {anObject : Option Addr} {cdObject ctObject : Value}
    {ocClasses_of : Value} {odClasses_of : Option Addr} {slClasses_of : Array (Option Value)} {kVClasses_of dcClasses_of pmClasses_of : Value} {anClasses_of : Option Addr} {cdClasses_of ctClasses_of : Value}
    {ocFields : Value} {odFields : Option Addr} {slFields : Array (Option Value)} {kVFields dcFields pmFields : Value} {anFields : Option Addr} {cdFields ctFields : Value}
    {ocLaw : Value} {odLaw : Option Addr} {slLaw : Array (Option Value)} {kVLaw dcLaw pmLaw : Value} {anLaw : Option Addr} {cdLaw ctLaw : Value}
    {q0 : Str} {N0 : Addr} {bs0 : List Value} {sn0 : List Str} {sub0 : List Value} {ab0 : Bool} {col0 : Option Bool} {dd0 : Option Addr} {u0 v0 w0 x0 y0 : Option Value}
    {ocI0 : Value} {odI0 : Option Addr} {slI0 : Array (Option Value)} {kVI0 dcI0 pmI0 : Value} {anI0 : Option Addr} {cdI0 ctI0 : Value}
    {q1 : Str} {N1 : Addr} {bs1 : List Value} {sn1 : List Str} {sub1 : List Value} {ab1 : Bool} {col1 : Option Bool} {dd1 : Option Addr} {u1 v1 w1 x1 y1 : Option Value}
    {ocI1 : Value} {odI1 : Option Addr} {slI1 : Array (Option Value)} {kVI1 dcI1 pmI1 : Value} {anI1 : Option Addr} {cdI1 ctI1 : Value}
    {q2 : Str} {N2 : Addr} {bs2 : List Value} {sn2 : List Str} {sub2 : List Value} {ab2 : Bool} {col2 : Option Bool} {dd2 : Option Addr} {u2 v2 w2 x2 y2 : Option Value}
    {ocI2 : Value} {odI2 : Option Addr} {slI2 : Array (Option Value)} {kVI2 dcI2 pmI2 : Value} {anI2 : Option Addr} {cdI2 ctI2 : Value}
    {q3 : Str} {N3 : Addr} {bs3 : List Value} {sn3 : List Str} {sub3 : List Value} {ab3 : Bool} {col3 : Option Bool} {dd3 : Option Addr} {u3 v3 w3 x3 y3 : Option Value}
    {ocI3 : Value} {odI3 : Option Addr} {slI3 : Array (Option Value)} {kVI3 dcI3 pmI3 : Value} {anI3 : Option Addr} {cdI3 ctI3 : Value}
    {q4 : Str} {N4 : Addr} {bs4 : List Value} {sn4 : List Str} {sub4 : List Value} {ab4 : Bool} {col4 : Option Bool} {dd4 : Option Addr} {u4 v4 w4 x4 y4 : Option Value}
    {ocI4 : Value} {odI4 : Option Addr} {slI4 : Array (Option Value)} {kVI4 dcI4 pmI4 : Value} {anI4 : Option Addr} {cdI4 ctI4 : Value}
    {q5 : Str} {N5 : Addr} {bs5 : List Value} {sn5 : List Str} {sub5 : List Value} {ab5 : Bool} {col5 : Option Bool} {dd5 : Option Addr} {u5 v5 w5 x5 y5 : Option Value}
    {ocI5 : Value} {odI5 : Option Addr} {slI5 : Array (Option Value)} {kVI5 dcI5 pmI5 : Value} {anI5 : Option Addr} {cdI5 ctI5 : Value}
    {q6 : Str} {N6 : Addr} {bs6 : List Value} {sn6 : List Str} {sub6 : List Value} {ab6 : Bool} {col6 : Option Bool} {dd6 : Option Addr} {u6 v6 w6 x6 y6 : Option Value}
    {ocI6 : Value} {odI6 : Option Addr} {slI6 : Array (Option Value)} {kVI6 dcI6 pmI6 : Value} {anI6 : Option Addr} {cdI6 ctI6 : Value}
    {q7 : Str} {N7 : Addr} {bs7 : List Value} {sn7 : List Str} {sub7 : List Value} {ab7 : Bool} {col7 : Option Bool} {dd7 : Option Addr} {u7 v7 w7 x7 y7 : Option Value}
    {ocI7 : Value} {odI7 : Option Addr} {slI7 : Array (Option Value)} {kVI7 dcI7 pmI7 : Value} {anI7 : Option Addr} {cdI7 ctI7 : Value}
    (aSource : PySem.W.nsIn K mainGlobals "_law_source" = some (some (.ref fSource))) (lSource : K.lookup fSource = some ⟨ocSource, odSource, .func (PySem.W.fnOf "_law_source" "_law_source" (defArgs sSource) (defBody sSource) (defScope sSource) .none kVSource dcSource pmSource anSource cdSource ctSource), slSource⟩) (cSource : PySem.W.codeIn K cdSource "_law_source" = true) (kSource : PySem.W.keepIn K (.ref fSource) = true)
    (aDraw : PySem.W.nsIn K mainGlobals "_law_draw" = some (some (.ref fDraw))) (lDraw : K.lookup fDraw = some ⟨ocDraw, odDraw, .func (PySem.W.fnOf "_law_draw" "_law_draw" (defArgs sDraw) (defBody sDraw) (defScope sDraw) .none kVDraw dcDraw pmDraw anDraw cdDraw ctDraw), slDraw⟩) (cDraw : PySem.W.codeIn K cdDraw "_law_draw" = true) (kDraw : PySem.W.keepIn K (.ref fDraw) = true)
    (aObject : PySem.W.nsIn K mainGlobals "_law_object" = some (some (.ref fObject))) (lObject : K.lookup fObject = some ⟨ocObject, odObject, .func (PySem.W.fnOf "_law_object" "_law_object" (defArgs sObject) (defBody sObject) (defScope sObject) .none kVObject dcObject pmObject anObject cdObject ctObject), slObject⟩) (cObject : PySem.W.codeIn K cdObject "_law_object" = true) (kObject : PySem.W.keepIn K (.ref fObject) = true)
    (aClasses_of : PySem.W.nsIn K mainGlobals "_law_classes_of" = some (some (.ref fClasses_of))) (lClasses_of : K.lookup fClasses_of = some ⟨ocClasses_of, odClasses_of, .func (PySem.W.fnOf "_law_classes_of" "_law_classes_of" (defArgs sClasses_of) (defBody sClasses_of) (defScope sClasses_of) .none kVClasses_of dcClasses_of pmClasses_of anClasses_of cdClasses_of ctClasses_of), slClasses_of⟩) (cClasses_of : PySem.W.codeIn K cdClasses_of "_law_classes_of" = true) (kClasses_of : PySem.W.keepIn K (.ref fClasses_of) = true)
    (aFields : PySem.W.nsIn K mainGlobals "_law_fields" = some (some (.ref fFields))) (lFields : K.lookup fFields = some ⟨ocFields, odFields, .func (PySem.W.fnOf "_law_fields" "_law_fields" (defArgs sFields) (defBody sFields) (defScope sFields) .none kVFields dcFields pmFields anFields cdFields ctFields), slFields⟩) (cFields : PySem.W.codeIn K cdFields "_law_fields" = true) (kFields : PySem.W.keepIn K (.ref fFields) = true)
    (aLaw : PySem.W.nsIn K mainGlobals "law" = some (some (.ref fLaw))) (lLaw : K.lookup fLaw = some ⟨ocLaw, odLaw, .func (PySem.W.fnOf "law" "law" (defArgs sLaw) (defBody sLaw) (defScope sLaw) .none kVLaw dcLaw pmLaw anLaw cdLaw ctLaw), slLaw⟩) (cLaw : PySem.W.codeIn K cdLaw "law" = true) (kLaw : PySem.W.keepIn K (.ref fLaw) = true)
    (aC0 : PySem.W.nsIn K mainGlobals "InvalidProgram" = some (some (.ref C0))) (lC0 : K.lookup C0 = some (excClassObj "InvalidProgram" q0 C0 N0 bs0 [.ref M, .type "ValueError", .type "Exception", .type "BaseException", .type "object"] true sn0 sub0 ab0 col0 dd0 u0 v0 w0 x0 y0 "ValueError.__new__"))
    (sa0 : PySem.W.findIn K (.ref C0) "__setattr__" = some (some (.builtin "object.__setattr__"))) (ty0 : PySem.W.typeIn K (.ref C0) = some (.type "type")) (kc0 : PySem.W.keepIn K (.ref C0) = true)
    (hg0 : PySem.W.findIn K (.ref C0) "__getattribute__" = some (some (.builtin "BaseException.__getattribute__"))) (hk0 : PySem.W.findIn K (.ref C0) "__getattr__" = some none)
    (ha0 : PySem.W.findIn K (.ref C0) "__class__" = some (some (.builtin "object.__class__"))) (hd0 : PySem.W.hasDictIn K C0 = true)
    (n10 : PySem.W.findIn K (.ref C0) "line" = some none) (n20 : PySem.W.findIn K (.ref C0) "name" = some none) (n30 : PySem.W.findIn K (.ref C0) "place" = some none) (n40 : PySem.W.findIn K (.ref C0) "path" = some none)
    (aI0 : PySem.W.findIn K (.ref C0) "__init__" = some (some (.ref fI0))) (lI0 : K.lookup fI0 = some ⟨ocI0, odI0, .func (PySem.W.fnOf "__init__" "InvalidProgram.__init__" (defArgs sInvalidProgramInit) (defBody sInvalidProgramInit) (defScope sInvalidProgramInit) .none kVI0 dcI0 pmI0 anI0 cdI0 ctI0), slI0⟩) (cI0 : PySem.W.codeIn K cdI0 "InvalidProgram.__init__" = true) (kI0 : PySem.W.keepIn K (.ref fI0) = true) (iI0 : PySem.W.isFn K (.ref fI0) = true) (nI0 : PySem.W.fnIn K fI0 = true)
    (aC1 : PySem.W.nsIn K mainGlobals "InvalidResult" = some (some (.ref C1))) (lC1 : K.lookup C1 = some (excClassObj "InvalidResult" q1 C1 N1 bs1 [.ref M, .type "ValueError", .type "Exception", .type "BaseException", .type "object"] true sn1 sub1 ab1 col1 dd1 u1 v1 w1 x1 y1 "ValueError.__new__"))
    (sa1 : PySem.W.findIn K (.ref C1) "__setattr__" = some (some (.builtin "object.__setattr__"))) (ty1 : PySem.W.typeIn K (.ref C1) = some (.type "type")) (kc1 : PySem.W.keepIn K (.ref C1) = true)
    (hg1 : PySem.W.findIn K (.ref C1) "__getattribute__" = some (some (.builtin "BaseException.__getattribute__"))) (hk1 : PySem.W.findIn K (.ref C1) "__getattr__" = some none)
    (ha1 : PySem.W.findIn K (.ref C1) "__class__" = some (some (.builtin "object.__class__"))) (hd1 : PySem.W.hasDictIn K C1 = true)
    (n11 : PySem.W.findIn K (.ref C1) "line" = some none) (n21 : PySem.W.findIn K (.ref C1) "name" = some none) (n31 : PySem.W.findIn K (.ref C1) "place" = some none) (n41 : PySem.W.findIn K (.ref C1) "path" = some none)
    (aI1 : PySem.W.findIn K (.ref C1) "__init__" = some (some (.ref fI1))) (lI1 : K.lookup fI1 = some ⟨ocI1, odI1, .func (PySem.W.fnOf "__init__" "InvalidResult.__init__" (defArgs sInvalidResultInit) (defBody sInvalidResultInit) (defScope sInvalidResultInit) .none kVI1 dcI1 pmI1 anI1 cdI1 ctI1), slI1⟩) (cI1 : PySem.W.codeIn K cdI1 "InvalidResult.__init__" = true) (kI1 : PySem.W.keepIn K (.ref fI1) = true) (iI1 : PySem.W.isFn K (.ref fI1) = true) (nI1 : PySem.W.fnIn K fI1 = true)
    (aC2 : PySem.W.nsIn K mainGlobals "InvalidHistory" = some (some (.ref C2))) (lC2 : K.lookup C2 = some (excClassObj "InvalidHistory" q2 C2 N2 bs2 [.ref M, .type "ValueError", .type "Exception", .type "BaseException", .type "object"] true sn2 sub2 ab2 col2 dd2 u2 v2 w2 x2 y2 "ValueError.__new__"))
    (sa2 : PySem.W.findIn K (.ref C2) "__setattr__" = some (some (.builtin "object.__setattr__"))) (ty2 : PySem.W.typeIn K (.ref C2) = some (.type "type")) (kc2 : PySem.W.keepIn K (.ref C2) = true)
    (hg2 : PySem.W.findIn K (.ref C2) "__getattribute__" = some (some (.builtin "BaseException.__getattribute__"))) (hk2 : PySem.W.findIn K (.ref C2) "__getattr__" = some none)
    (ha2 : PySem.W.findIn K (.ref C2) "__class__" = some (some (.builtin "object.__class__"))) (hd2 : PySem.W.hasDictIn K C2 = true)
    (n12 : PySem.W.findIn K (.ref C2) "line" = some none) (n22 : PySem.W.findIn K (.ref C2) "name" = some none) (n32 : PySem.W.findIn K (.ref C2) "place" = some none) (n42 : PySem.W.findIn K (.ref C2) "path" = some none)
    (aI2 : PySem.W.findIn K (.ref C2) "__init__" = some (some (.ref fI2))) (lI2 : K.lookup fI2 = some ⟨ocI2, odI2, .func (PySem.W.fnOf "__init__" "InvalidHistory.__init__" (defArgs sInvalidHistoryInit) (defBody sInvalidHistoryInit) (defScope sInvalidHistoryInit) .none kVI2 dcI2 pmI2 anI2 cdI2 ctI2), slI2⟩) (cI2 : PySem.W.codeIn K cdI2 "InvalidHistory.__init__" = true) (kI2 : PySem.W.keepIn K (.ref fI2) = true) (iI2 : PySem.W.isFn K (.ref fI2) = true) (nI2 : PySem.W.fnIn K fI2 = true)
    (aC3 : PySem.W.nsIn K mainGlobals "UnknownProcedure" = some (some (.ref C3))) (lC3 : K.lookup C3 = some (excClassObj "UnknownProcedure" q3 C3 N3 bs3 [.ref M, .type "ValueError", .type "Exception", .type "BaseException", .type "object"] true sn3 sub3 ab3 col3 dd3 u3 v3 w3 x3 y3 "ValueError.__new__"))
    (sa3 : PySem.W.findIn K (.ref C3) "__setattr__" = some (some (.builtin "object.__setattr__"))) (ty3 : PySem.W.typeIn K (.ref C3) = some (.type "type")) (kc3 : PySem.W.keepIn K (.ref C3) = true)
    (hg3 : PySem.W.findIn K (.ref C3) "__getattribute__" = some (some (.builtin "BaseException.__getattribute__"))) (hk3 : PySem.W.findIn K (.ref C3) "__getattr__" = some none)
    (ha3 : PySem.W.findIn K (.ref C3) "__class__" = some (some (.builtin "object.__class__"))) (hd3 : PySem.W.hasDictIn K C3 = true)
    (n13 : PySem.W.findIn K (.ref C3) "line" = some none) (n23 : PySem.W.findIn K (.ref C3) "name" = some none) (n33 : PySem.W.findIn K (.ref C3) "place" = some none) (n43 : PySem.W.findIn K (.ref C3) "path" = some none)
    (aI3 : PySem.W.findIn K (.ref C3) "__init__" = some (some (.ref fI3))) (lI3 : K.lookup fI3 = some ⟨ocI3, odI3, .func (PySem.W.fnOf "__init__" "UnknownProcedure.__init__" (defArgs sUnknownProcedureInit) (defBody sUnknownProcedureInit) (defScope sUnknownProcedureInit) .none kVI3 dcI3 pmI3 anI3 cdI3 ctI3), slI3⟩) (cI3 : PySem.W.codeIn K cdI3 "UnknownProcedure.__init__" = true) (kI3 : PySem.W.keepIn K (.ref fI3) = true) (iI3 : PySem.W.isFn K (.ref fI3) = true) (nI3 : PySem.W.fnIn K fI3 = true)
    (aC4 : PySem.W.nsIn K mainGlobals "UnknownPlace" = some (some (.ref C4))) (lC4 : K.lookup C4 = some (excClassObj "UnknownPlace" q4 C4 N4 bs4 [.ref M, .type "ValueError", .type "Exception", .type "BaseException", .type "object"] true sn4 sub4 ab4 col4 dd4 u4 v4 w4 x4 y4 "ValueError.__new__"))
    (sa4 : PySem.W.findIn K (.ref C4) "__setattr__" = some (some (.builtin "object.__setattr__"))) (ty4 : PySem.W.typeIn K (.ref C4) = some (.type "type")) (kc4 : PySem.W.keepIn K (.ref C4) = true)
    (hg4 : PySem.W.findIn K (.ref C4) "__getattribute__" = some (some (.builtin "BaseException.__getattribute__"))) (hk4 : PySem.W.findIn K (.ref C4) "__getattr__" = some none)
    (ha4 : PySem.W.findIn K (.ref C4) "__class__" = some (some (.builtin "object.__class__"))) (hd4 : PySem.W.hasDictIn K C4 = true)
    (n14 : PySem.W.findIn K (.ref C4) "line" = some none) (n24 : PySem.W.findIn K (.ref C4) "name" = some none) (n34 : PySem.W.findIn K (.ref C4) "place" = some none) (n44 : PySem.W.findIn K (.ref C4) "path" = some none)
    (aI4 : PySem.W.findIn K (.ref C4) "__init__" = some (some (.ref fI4))) (lI4 : K.lookup fI4 = some ⟨ocI4, odI4, .func (PySem.W.fnOf "__init__" "UnknownPlace.__init__" (defArgs sUnknownPlaceInit) (defBody sUnknownPlaceInit) (defScope sUnknownPlaceInit) .none kVI4 dcI4 pmI4 anI4 cdI4 ctI4), slI4⟩) (cI4 : PySem.W.codeIn K cdI4 "UnknownPlace.__init__" = true) (kI4 : PySem.W.keepIn K (.ref fI4) = true) (iI4 : PySem.W.isFn K (.ref fI4) = true) (nI4 : PySem.W.fnIn K fI4 = true)
    (aC5 : PySem.W.nsIn K mainGlobals "NotCached" = some (some (.ref C5))) (lC5 : K.lookup C5 = some (excClassObj "NotCached" q5 C5 N5 bs5 [.ref M, .type "ValueError", .type "Exception", .type "BaseException", .type "object"] true sn5 sub5 ab5 col5 dd5 u5 v5 w5 x5 y5 "ValueError.__new__"))
    (sa5 : PySem.W.findIn K (.ref C5) "__setattr__" = some (some (.builtin "object.__setattr__"))) (ty5 : PySem.W.typeIn K (.ref C5) = some (.type "type")) (kc5 : PySem.W.keepIn K (.ref C5) = true)
    (hg5 : PySem.W.findIn K (.ref C5) "__getattribute__" = some (some (.builtin "BaseException.__getattribute__"))) (hk5 : PySem.W.findIn K (.ref C5) "__getattr__" = some none)
    (ha5 : PySem.W.findIn K (.ref C5) "__class__" = some (some (.builtin "object.__class__"))) (hd5 : PySem.W.hasDictIn K C5 = true)
    (n15 : PySem.W.findIn K (.ref C5) "line" = some none) (n25 : PySem.W.findIn K (.ref C5) "name" = some none) (n35 : PySem.W.findIn K (.ref C5) "place" = some none) (n45 : PySem.W.findIn K (.ref C5) "path" = some none)
    (aI5 : PySem.W.findIn K (.ref C5) "__init__" = some (some (.ref fI5))) (lI5 : K.lookup fI5 = some ⟨ocI5, odI5, .func (PySem.W.fnOf "__init__" "NotCached.__init__" (defArgs sNotCachedInit) (defBody sNotCachedInit) (defScope sNotCachedInit) .none kVI5 dcI5 pmI5 anI5 cdI5 ctI5), slI5⟩) (cI5 : PySem.W.codeIn K cdI5 "NotCached.__init__" = true) (kI5 : PySem.W.keepIn K (.ref fI5) = true) (iI5 : PySem.W.isFn K (.ref fI5) = true) (nI5 : PySem.W.fnIn K fI5 = true)
    (aC6 : PySem.W.nsIn K mainGlobals "NoItem" = some (some (.ref C6))) (lC6 : K.lookup C6 = some (excClassObj "NoItem" q6 C6 N6 bs6 [.ref M, .type "ValueError", .type "Exception", .type "BaseException", .type "object"] true sn6 sub6 ab6 col6 dd6 u6 v6 w6 x6 y6 "ValueError.__new__"))
    (sa6 : PySem.W.findIn K (.ref C6) "__setattr__" = some (some (.builtin "object.__setattr__"))) (ty6 : PySem.W.typeIn K (.ref C6) = some (.type "type")) (kc6 : PySem.W.keepIn K (.ref C6) = true)
    (hg6 : PySem.W.findIn K (.ref C6) "__getattribute__" = some (some (.builtin "BaseException.__getattribute__"))) (hk6 : PySem.W.findIn K (.ref C6) "__getattr__" = some none)
    (ha6 : PySem.W.findIn K (.ref C6) "__class__" = some (some (.builtin "object.__class__"))) (hd6 : PySem.W.hasDictIn K C6 = true)
    (n16 : PySem.W.findIn K (.ref C6) "line" = some none) (n26 : PySem.W.findIn K (.ref C6) "name" = some none) (n36 : PySem.W.findIn K (.ref C6) "place" = some none) (n46 : PySem.W.findIn K (.ref C6) "path" = some none)
    (aI6 : PySem.W.findIn K (.ref C6) "__init__" = some (some (.ref fI6))) (lI6 : K.lookup fI6 = some ⟨ocI6, odI6, .func (PySem.W.fnOf "__init__" "NoItem.__init__" (defArgs sNoItemInit) (defBody sNoItemInit) (defScope sNoItemInit) .none kVI6 dcI6 pmI6 anI6 cdI6 ctI6), slI6⟩) (cI6 : PySem.W.codeIn K cdI6 "NoItem.__init__" = true) (kI6 : PySem.W.keepIn K (.ref fI6) = true) (iI6 : PySem.W.isFn K (.ref fI6) = true) (nI6 : PySem.W.fnIn K fI6 = true)
    (aC7 : PySem.W.nsIn K mainGlobals "CallFailed" = some (some (.ref C7))) (lC7 : K.lookup C7 = some (excClassObj "CallFailed" q7 C7 N7 bs7 [.ref M, .type "ValueError", .type "Exception", .type "BaseException", .type "object"] true sn7 sub7 ab7 col7 dd7 u7 v7 w7 x7 y7 "ValueError.__new__"))
    (sa7 : PySem.W.findIn K (.ref C7) "__setattr__" = some (some (.builtin "object.__setattr__"))) (ty7 : PySem.W.typeIn K (.ref C7) = some (.type "type")) (kc7 : PySem.W.keepIn K (.ref C7) = true)
    (hg7 : PySem.W.findIn K (.ref C7) "__getattribute__" = some (some (.builtin "BaseException.__getattribute__"))) (hk7 : PySem.W.findIn K (.ref C7) "__getattr__" = some none)
    (ha7 : PySem.W.findIn K (.ref C7) "__class__" = some (some (.builtin "object.__class__"))) (hd7 : PySem.W.hasDictIn K C7 = true)
    (n17 : PySem.W.findIn K (.ref C7) "line" = some none) (n27 : PySem.W.findIn K (.ref C7) "name" = some none) (n37 : PySem.W.findIn K (.ref C7) "place" = some none) (n47 : PySem.W.findIn K (.ref C7) "path" = some none)
    (aI7 : PySem.W.findIn K (.ref C7) "__init__" = some (some (.ref fI7))) (lI7 : K.lookup fI7 = some ⟨ocI7, odI7, .func (PySem.W.fnOf "__init__" "CallFailed.__init__" (defArgs sCallFailedInit) (defBody sCallFailedInit) (defScope sCallFailedInit) .none kVI7 dcI7 pmI7 anI7 cdI7 ctI7), slI7⟩) (cI7 : PySem.W.codeIn K cdI7 "CallFailed.__init__" = true) (kI7 : PySem.W.keepIn K (.ref fI7) = true) (iI7 : PySem.W.isFn K (.ref fI7) = true) (nI7 : PySem.W.fnIn K fI7 = true)
    (aM : PySem.W.nsIn K mainGlobals "MidfallError" = some (some (.ref M))) (iM : PySem.W.isClsIn K M = true) (tM : PySem.W.typeIn K (.ref M) = some (.type "type")) (jM : PySem.W.findIn K (.ref M) "__init__" = some (some (.builtin "ValueError.__init__")))
    (hn : PySem.W.specialIn K (.builtin "object.__class__") "__get__" = some (some (.builtin "getset_descriptor.__get__"))) (htk : PySem.W.takesIn K (.builtin "object.__class__") = some true)
    (zint : PySem.W.nsIn K mainGlobals "int" = some none)
    (zenumerate : PySem.W.nsIn K mainGlobals "enumerate" = some none)
    (zrange : PySem.W.nsIn K mainGlobals "range" = some none)
    (zisinstance : PySem.W.nsIn K mainGlobals "isinstance" = some none)
    (zValueError : PySem.W.nsIn K mainGlobals "ValueError" = some none) :
    ∃ fd : FuncData, (∀ (s : Shared) (v : Value), BindsTo s fd ⟨[v], []⟩ [("_law_script", v)]) ∧ ∀ base : Heap, K.In base → base.Ns mainGlobals mg → FnOk l.prog w K mg base CX0 3 fa fd ["_law_script"] (spLaw K) := by
  have dSource : DefF K "_law_source" sSource fSource := ⟨⟨_, _, _, _, _, _, _, _, _, aSource, lSource, cSource, kSource⟩⟩
  have dDraw : DefF K "_law_draw" sDraw fDraw := ⟨⟨_, _, _, _, _, _, _, _, _, aDraw, lDraw, cDraw, kDraw⟩⟩
  have dObject : DefF K "_law_object" sObject fObject := ⟨⟨_, _, _, _, _, _, _, _, _, aObject, lObject, cObject, kObject⟩⟩
  have dClasses_of : DefF K "_law_classes_of" sClasses_of fClasses_of := ⟨⟨_, _, _, _, _, _, _, _, _, aClasses_of, lClasses_of, cClasses_of, kClasses_of⟩⟩
  have dFields : DefF K "_law_fields" sFields fFields := ⟨⟨_, _, _, _, _, _, _, _, _, aFields, lFields, cFields, kFields⟩⟩
  have dLaw : DefF K "law" sLaw fLaw := ⟨⟨_, _, _, _, _, _, _, _, _, aLaw, lLaw, cLaw, kLaw⟩⟩
  have mI0 : MetF K C0 "__init__" "InvalidProgram.__init__" sInvalidProgramInit fI0 := ⟨⟨_, _, _, _, _, _, _, _, _, aI0, lI0, cI0, kI0, iI0, nI0⟩⟩
  have D0 : ClF K M C0 "InvalidProgram" := ⟨⟨_, _, _, _, _, _, _, _, _, _, _, _, _, lC0⟩, sa0, ty0, kc0, hg0, hk0, ha0, hd0⟩
  have mI1 : MetF K C1 "__init__" "InvalidResult.__init__" sInvalidResultInit fI1 := ⟨⟨_, _, _, _, _, _, _, _, _, aI1, lI1, cI1, kI1, iI1, nI1⟩⟩
  have D1 : ClF K M C1 "InvalidResult" := ⟨⟨_, _, _, _, _, _, _, _, _, _, _, _, _, lC1⟩, sa1, ty1, kc1, hg1, hk1, ha1, hd1⟩
  have mI2 : MetF K C2 "__init__" "InvalidHistory.__init__" sInvalidHistoryInit fI2 := ⟨⟨_, _, _, _, _, _, _, _, _, aI2, lI2, cI2, kI2, iI2, nI2⟩⟩
  have D2 : ClF K M C2 "InvalidHistory" := ⟨⟨_, _, _, _, _, _, _, _, _, _, _, _, _, lC2⟩, sa2, ty2, kc2, hg2, hk2, ha2, hd2⟩
  have mI3 : MetF K C3 "__init__" "UnknownProcedure.__init__" sUnknownProcedureInit fI3 := ⟨⟨_, _, _, _, _, _, _, _, _, aI3, lI3, cI3, kI3, iI3, nI3⟩⟩
  have D3 : ClF K M C3 "UnknownProcedure" := ⟨⟨_, _, _, _, _, _, _, _, _, _, _, _, _, lC3⟩, sa3, ty3, kc3, hg3, hk3, ha3, hd3⟩
  have mI4 : MetF K C4 "__init__" "UnknownPlace.__init__" sUnknownPlaceInit fI4 := ⟨⟨_, _, _, _, _, _, _, _, _, aI4, lI4, cI4, kI4, iI4, nI4⟩⟩
  have D4 : ClF K M C4 "UnknownPlace" := ⟨⟨_, _, _, _, _, _, _, _, _, _, _, _, _, lC4⟩, sa4, ty4, kc4, hg4, hk4, ha4, hd4⟩
  have mI5 : MetF K C5 "__init__" "NotCached.__init__" sNotCachedInit fI5 := ⟨⟨_, _, _, _, _, _, _, _, _, aI5, lI5, cI5, kI5, iI5, nI5⟩⟩
  have D5 : ClF K M C5 "NotCached" := ⟨⟨_, _, _, _, _, _, _, _, _, _, _, _, _, lC5⟩, sa5, ty5, kc5, hg5, hk5, ha5, hd5⟩
  have mI6 : MetF K C6 "__init__" "NoItem.__init__" sNoItemInit fI6 := ⟨⟨_, _, _, _, _, _, _, _, _, aI6, lI6, cI6, kI6, iI6, nI6⟩⟩
  have D6 : ClF K M C6 "NoItem" := ⟨⟨_, _, _, _, _, _, _, _, _, _, _, _, _, lC6⟩, sa6, ty6, kc6, hg6, hk6, ha6, hd6⟩
  have mI7 : MetF K C7 "__init__" "CallFailed.__init__" sCallFailedInit fI7 := ⟨⟨_, _, _, _, _, _, _, _, _, aI7, lI7, cI7, kI7, iI7, nI7⟩⟩
  have D7 : ClF K M C7 "CallFailed" := ⟨⟨_, _, _, _, _, _, _, _, _, _, _, _, _, lC7⟩, sa7, ty7, kc7, hg7, hk7, ha7, hd7⟩
  have vint : mg "int" = none := PySem.W.mg_none_of X G zint
  have venumerate : mg "enumerate" = none := PySem.W.mg_none_of X G zenumerate
  have vrange : mg "range" = none := PySem.W.mg_none_of X G zrange
  have visinstance : mg "isinstance" = none := PySem.W.mg_none_of X G zisinstance
  have vValueError : mg "ValueError" = none := PySem.W.mg_none_of X G zValueError
  let Cs : Fin 8 → Addr := fun j => [C0, C1, C2, C3, C4, C5, C6, C7].getD j.val 0
  have D : ∀ j : Fin 8, ClF K M (Cs j) (clNames.getD j.val "") := all8 D0 D1 D2 D3 D4 D5 D6 D7
  have nM : ∀ j : Fin 8, Cs j ≠ M := all8 (fun e => by have q := aI0; rw [show C0 = M from e, jM] at q; cases q) (fun e => by have q := aI1; rw [show C1 = M from e, jM] at q; cases q) (fun e => by have q := aI2; rw [show C2 = M from e, jM] at q; cases q)
    (fun e => by have q := aI3; rw [show C3 = M from e, jM] at q; cases q) (fun e => by have q := aI4; rw [show C4 = M from e, jM] at q; cases q) (fun e => by have q := aI5; rw [show C5 = M from e, jM] at q; cases q)
    (fun e => by have q := aI6; rw [show C6 = M from e, jM] at q; cases q) (fun e => by have q := aI7; rw [show C7 = M from e, jM] at q; cases q)
  have nf : NoF K Cs := all8 (four n10 n20 n30 n40) (four n11 n21 n31 n41) (four n12 n22 n32 n42) (four n13 n23 n33 n43) (four n14 n24 n34 n44) (four n15 n25 n35 n45) (four n16 n26 n36 n46) (four n17 n27 n37 n47)
  have kit : ∀ i j, PySem.W.kitOne K (.ref (Cs i)) (.ref (Cs j)) = some (decide (i = j)) := fun i j => by
    by_cases e : i = j
    · rw [e, decide_eq_true rfl]; exact kit_self
    · rw [decide_eq_false e]; exact (D i).kitS (D j) ((D i).ne (D j) (clNames_ne i j e)) (nM j)
  have T : Tab2 K Cs M := ⟨⟨fun j => (D j).exc hn htk, fun j => (D j).xf, kit⟩, nf, fun j => (D j).kitM iM tM, fun j => (D j).kitV⟩
  refine dLaw.law X G hfa (fun _ _ _ _ _ _ s v => .of_eq rfl) fun base _ _ fd FL => ?_
  have c0 : CalE l.prog w K mg base CX0 1 "InvalidProgram" C0 ["self", "line"] ["line"] g1 gV1 (spIni1 C0 "line") := mI0.calE D0.oex (PySem.W.mg_of X G aC0) (fun _ _ _ _ _ _ us hl => match us, hl with | [_, _], _ => rfl) (fun _ _ _ _ _ _ us ws h1 h2 => match us, ws, h1, h2 with | [_], [_], _, _ => rfl) rel1 fun fd F => ok_InvalidProgram F D0.oex n10
  have c1 : CalE l.prog w K mg base CX0 1 "InvalidResult" C1 ["self", "line"] ["line"] g1 gV1 (spIni1 C1 "line") := mI1.calE D1.oex (PySem.W.mg_of X G aC1) (fun _ _ _ _ _ _ us hl => match us, hl with | [_, _], _ => rfl) (fun _ _ _ _ _ _ us ws h1 h2 => match us, ws, h1, h2 with | [_], [_], _, _ => rfl) rel1 fun fd F => ok_InvalidResult F D1.oex n11
  have c2 : CalE l.prog w K mg base CX0 1 "InvalidHistory" C2 ["self", "line"] ["line"] g1 gV1 (spIni1 C2 "line") := mI2.calE D2.oex (PySem.W.mg_of X G aC2) (fun _ _ _ _ _ _ us hl => match us, hl with | [_, _], _ => rfl) (fun _ _ _ _ _ _ us ws h1 h2 => match us, ws, h1, h2 with | [_], [_], _, _ => rfl) rel1 fun fd F => ok_InvalidHistory F D2.oex n12
  have c3 : CalE l.prog w K mg base CX0 1 "UnknownProcedure" C3 ["self", "name"] ["name"] g1 gV1 (spIni1 C3 "name") := mI3.calE D3.oex (PySem.W.mg_of X G aC3) (fun _ _ _ _ _ _ us hl => match us, hl with | [_, _], _ => rfl) (fun _ _ _ _ _ _ us ws h1 h2 => match us, ws, h1, h2 with | [_], [_], _, _ => rfl) rel1 fun fd F => ok_UnknownProcedure F D3.oex n23
  have c4 : CalE l.prog w K mg base CX0 1 "UnknownPlace" C4 ["self", "place"] ["place"] g1 gV1 (spIni1 C4 "place") := mI4.calE D4.oex (PySem.W.mg_of X G aC4) (fun _ _ _ _ _ _ us hl => match us, hl with | [_, _], _ => rfl) (fun _ _ _ _ _ _ us ws h1 h2 => match us, ws, h1, h2 with | [_], [_], _, _ => rfl) rel1 fun fd F => ok_UnknownPlace F D4.oex n34
  have c5 : CalE l.prog w K mg base CX0 1 "NotCached" C5 ["self", "name"] ["name"] g1 gV1 (spIni1 C5 "name") := mI5.calE D5.oex (PySem.W.mg_of X G aC5) (fun _ _ _ _ _ _ us hl => match us, hl with | [_, _], _ => rfl) (fun _ _ _ _ _ _ us ws h1 h2 => match us, ws, h1, h2 with | [_], [_], _, _ => rfl) rel1 fun fd F => ok_NotCached F D5.oex n25
  have c6 : CalE l.prog w K mg base CX0 1 "NoItem" C6 ["self", "path"] ["path"] g1 gV1 (spIni1 C6 "path") := mI6.calE D6.oex (PySem.W.mg_of X G aC6) (fun _ _ _ _ _ _ us hl => match us, hl with | [_, _], _ => rfl) (fun _ _ _ _ _ _ us ws h1 h2 => match us, ws, h1, h2 with | [_], [_], _, _ => rfl) rel1 fun fd F => ok_NoItem F D6.oex n46
  have c7 : CalE l.prog w K mg base CX0 1 "CallFailed" C7 ["self", "name", "path", "place"] ["place", "name", "path"] g3 gV3 (spIni3 C7) := mI7.calE D7.oex (PySem.W.mg_of X G aC7) (fun _ _ _ _ _ _ us hl => match us, hl with | [_, _, _, _], _ => rfl) (fun _ _ _ _ _ _ us ws h1 h2 => match us, ws, h1, h2 with | [_], [_, _, _], _, _ => rfl) rel3 fun fd F => ok_CallFailed F D7.oex n27 n47 n37
  have AC : AllC l.prog w K mg base Cs := ⟨c0, c1, c2, c3, c4, c5, c6, c7⟩
  have c_source : Cal l.prog w K mg base CX0 1 "_law_source" ["_law_script"] (spSource K) := dSource.cal X G (fun _ _ _ _ _ _ us hl => match us, hl with | [_], _ => rfl) fun fd F => ok_source F vint venumerate
  have c_draw : Cal l.prog w K mg base CX0 1 "_law_draw" psD spDraw := dDraw.cal X G (fun _ _ _ _ _ _ us hl => match us, hl with | [_, _], _ => rfl) fun fd F => ok_draw F vint
  have c_object : Cal l.prog w K mg base CX0 2 "_law_object" ["_law_source_here"] (spObject K) := dObject.cal X G (fun _ _ _ _ _ _ us hl => match us, hl with | [_], _ => rfl) fun fd F => ok_object F c_draw vrange
  have c_classes : Cal l.prog w K mg base CX0 1 "_law_classes_of" ["_law_e"] (spClasses Cs) := dClasses_of.cal X G (fun _ _ _ _ _ _ us hl => match us, hl with | [_], _ => rfl) fun fd F => ok_classes F T.toTab visinstance (PySem.W.mg_of X G aC0) (PySem.W.mg_of X G aC1) (PySem.W.mg_of X G aC2) (PySem.W.mg_of X G aC3) (PySem.W.mg_of X G aC4) (PySem.W.mg_of X G aC5) (PySem.W.mg_of X G aC6) (PySem.W.mg_of X G aC7)
  have c_fields : Cal l.prog w K mg base CX0 1 "_law_fields" ["_law_word", "_law_e"] (spFields Cs) := dFields.cal X G (fun _ _ _ _ _ _ us hl => match us, hl with | [_, _], _ => rfl) fun fd F => ok_fields F T.toTab nf
  exact ok_law FL AC T visinstance vValueError (PySem.W.mg_of X G aM) c_source c_object c_classes c_fields
end Mf
open PySem PySem.W PyProof.Rows
set_option maxRecDepth 100000 in
set_option maxHeartbeats 0 in
theorem PySem.Challenge.cw_midfall_k49_errors_made_holds : PySem.Challenge.rw_midfall_k49_errors_made.Holds := by
  w_on; o_law; k_head; (case hw => w_witness2)
  k_fill
  refine Mf.walk (n := 3) (l := PySem.Challenge.rw_midfall_k49_errors_made) rfl rfl ⟨rfl, by decide, by decide⟩ (fun w h Y => PySem.W.kIn_of Y) ?F
  case F =>
    intro w mg fa h KX G hmg
    refine' Mf.all_mk KX G hmg ?aSource ?lSource ?cSource ?kSource ?aDraw ?lDraw ?cDraw ?kDraw ?aObject ?lObject ?cObject ?kObject ?aClasses_of ?lClasses_of ?cClasses_of ?kClasses_of ?aFields ?lFields ?cFields ?kFields ?aLaw ?lLaw ?cLaw ?kLaw ?aC0 ?lC0 ?sa0 ?ty0 ?kc0 ?hg0 ?hk0 ?ha0 ?hd0 ?n10 ?n20 ?n30 ?n40 ?aI0 ?lI0 ?cI0 ?kI0 ?iI0 ?nI0 ?aC1 ?lC1 ?sa1 ?ty1 ?kc1 ?hg1 ?hk1 ?ha1 ?hd1 ?n11 ?n21 ?n31 ?n41 ?aI1 ?lI1 ?cI1 ?kI1 ?iI1 ?nI1 ?aC2 ?lC2 ?sa2 ?ty2 ?kc2 ?hg2 ?hk2 ?ha2 ?hd2 ?n12 ?n22 ?n32 ?n42 ?aI2 ?lI2 ?cI2 ?kI2 ?iI2 ?nI2 ?aC3 ?lC3 ?sa3 ?ty3 ?kc3 ?hg3 ?hk3 ?ha3 ?hd3 ?n13 ?n23 ?n33 ?n43 ?aI3 ?lI3 ?cI3 ?kI3 ?iI3 ?nI3 ?aC4 ?lC4 ?sa4 ?ty4 ?kc4 ?hg4 ?hk4 ?ha4 ?hd4 ?n14 ?n24 ?n34 ?n44 ?aI4 ?lI4 ?cI4 ?kI4 ?iI4 ?nI4 ?aC5 ?lC5 ?sa5 ?ty5 ?kc5 ?hg5 ?hk5 ?ha5 ?hd5 ?n15 ?n25 ?n35 ?n45 ?aI5 ?lI5 ?cI5 ?kI5 ?iI5 ?nI5 ?aC6 ?lC6 ?sa6 ?ty6 ?kc6 ?hg6 ?hk6 ?ha6 ?hd6 ?n16 ?n26 ?n36 ?n46 ?aI6 ?lI6 ?cI6 ?kI6 ?iI6 ?nI6 ?aC7 ?lC7 ?sa7 ?ty7 ?kc7 ?hg7 ?hk7 ?ha7 ?hd7 ?n17 ?n27 ?n37 ?n47 ?aI7 ?lI7 ?cI7 ?kI7 ?iI7 ?nI7 ?aM ?iM ?tM ?jM ?hn ?htk ?zint ?zenumerate ?zrange ?zisinstance ?zValueError
    (case aSource => k_is)
    (case lSource => k_is)
    (case cSource => k_is)
    (case kSource => k_is)
    (case aDraw => k_is)
    (case lDraw => k_is)
    (case cDraw => k_is)
    (case kDraw => k_is)
    (case aObject => k_is)
    (case lObject => k_is)
    (case cObject => k_is)
    (case kObject => k_is)
    (case aClasses_of => k_is)
    (case lClasses_of => k_is)
    (case cClasses_of => k_is)
    (case kClasses_of => k_is)
    (case aFields => k_is)
    (case lFields => k_is)
    (case cFields => k_is)
    (case kFields => k_is)
    (case aLaw => k_is)
    (case lLaw => k_is)
    (case cLaw => k_is)
    (case kLaw => k_is)
    (case aC0 => k_is)
    (case lC0 => k_is)
    (case sa0 => k_is)
    (case ty0 => k_is)
    (case kc0 => k_is)
    (case hg0 => k_is)
    (case hk0 => k_is)
    (case ha0 => k_is)
    (case hd0 => k_is)
    (case n10 => k_is)
    (case n20 => k_is)
    (case n30 => k_is)
    (case n40 => k_is)
    (case aI0 => k_is)
    (case lI0 => k_is)
    (case cI0 => k_is)
    (case kI0 => k_is)
    (case iI0 => k_is)
    (case nI0 => k_is)
    (case aC1 => k_is)
    (case lC1 => k_is)
    (case sa1 => k_is)
    (case ty1 => k_is)
    (case kc1 => k_is)
    (case hg1 => k_is)
    (case hk1 => k_is)
    (case ha1 => k_is)
    (case hd1 => k_is)
    (case n11 => k_is)
    (case n21 => k_is)
    (case n31 => k_is)
    (case n41 => k_is)
    (case aI1 => k_is)
    (case lI1 => k_is)
    (case cI1 => k_is)
    (case kI1 => k_is)
    (case iI1 => k_is)
    (case nI1 => k_is)
    (case aC2 => k_is)
    (case lC2 => k_is)
    (case sa2 => k_is)
    (case ty2 => k_is)
    (case kc2 => k_is)
    (case hg2 => k_is)
    (case hk2 => k_is)
    (case ha2 => k_is)
    (case hd2 => k_is)
    (case n12 => k_is)
    (case n22 => k_is)
    (case n32 => k_is)
    (case n42 => k_is)
    (case aI2 => k_is)
    (case lI2 => k_is)
    (case cI2 => k_is)
    (case kI2 => k_is)
    (case iI2 => k_is)
    (case nI2 => k_is)
    (case aC3 => k_is)
    (case lC3 => k_is)
    (case sa3 => k_is)
    (case ty3 => k_is)
    (case kc3 => k_is)
    (case hg3 => k_is)
    (case hk3 => k_is)
    (case ha3 => k_is)
    (case hd3 => k_is)
    (case n13 => k_is)
    (case n23 => k_is)
    (case n33 => k_is)
    (case n43 => k_is)
    (case aI3 => k_is)
    (case lI3 => k_is)
    (case cI3 => k_is)
    (case kI3 => k_is)
    (case iI3 => k_is)
    (case nI3 => k_is)
    (case aC4 => k_is)
    (case lC4 => k_is)
    (case sa4 => k_is)
    (case ty4 => k_is)
    (case kc4 => k_is)
    (case hg4 => k_is)
    (case hk4 => k_is)
    (case ha4 => k_is)
    (case hd4 => k_is)
    (case n14 => k_is)
    (case n24 => k_is)
    (case n34 => k_is)
    (case n44 => k_is)
    (case aI4 => k_is)
    (case lI4 => k_is)
    (case cI4 => k_is)
    (case kI4 => k_is)
    (case iI4 => k_is)
    (case nI4 => k_is)
    (case aC5 => k_is)
    (case lC5 => k_is)
    (case sa5 => k_is)
    (case ty5 => k_is)
    (case kc5 => k_is)
    (case hg5 => k_is)
    (case hk5 => k_is)
    (case ha5 => k_is)
    (case hd5 => k_is)
    (case n15 => k_is)
    (case n25 => k_is)
    (case n35 => k_is)
    (case n45 => k_is)
    (case aI5 => k_is)
    (case lI5 => k_is)
    (case cI5 => k_is)
    (case kI5 => k_is)
    (case iI5 => k_is)
    (case nI5 => k_is)
    (case aC6 => k_is)
    (case lC6 => k_is)
    (case sa6 => k_is)
    (case ty6 => k_is)
    (case kc6 => k_is)
    (case hg6 => k_is)
    (case hk6 => k_is)
    (case ha6 => k_is)
    (case hd6 => k_is)
    (case n16 => k_is)
    (case n26 => k_is)
    (case n36 => k_is)
    (case n46 => k_is)
    (case aI6 => k_is)
    (case lI6 => k_is)
    (case cI6 => k_is)
    (case kI6 => k_is)
    (case iI6 => k_is)
    (case nI6 => k_is)
    (case aC7 => k_is)
    (case lC7 => k_is)
    (case sa7 => k_is)
    (case ty7 => k_is)
    (case kc7 => k_is)
    (case hg7 => k_is)
    (case hk7 => k_is)
    (case ha7 => k_is)
    (case hd7 => k_is)
    (case n17 => k_is)
    (case n27 => k_is)
    (case n37 => k_is)
    (case n47 => k_is)
    (case aI7 => k_is)
    (case lI7 => k_is)
    (case cI7 => k_is)
    (case kI7 => k_is)
    (case iI7 => k_is)
    (case nI7 => k_is)
    (case aM => k_is)
    (case iM => k_is)
    (case tM => k_is)
    (case jM => k_is)
    (case hn => k_is)
    (case htk => k_is)
    (case zint => k_is)
    (case zenumerate => k_is)
    (case zrange => k_is)
    (case zisinstance => k_is)
    (case zValueError => k_is)
