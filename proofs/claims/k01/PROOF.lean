import PyProof.Rows.All
import Wide.All
import OpenK.AllK
import Wide.FinOn
import HandS.Set
import HandS.More
import HandS.SetTxt0
import HandS.SetFor
import PyProof.Rows.SortShellAny
import HandS.ForExc
import HandS.ForMost
import HandS.IsInst
import HandS.SlotsOwn
import PyProof.InstEq
import HandS.Wide
import HandS.Walk
import HandS.TupAny
import HandS.Defaults
import HandS.Codes
import HandS.RaiseMore
import PySem.Challenge.RW_midfall_k01_name_sets
set_option Elab.async false
set_option maxRecDepth 100000

/-! Sets of texts built by set(xs), and sorted(..) of them. -/
namespace Mf
open PySem PySem.Spec PyProof.Rows L2 PySem.Froz

section
variable {P : Program} {w : World} {A : Around} {E : Value → Shared → Prop} {s : Shared} {a : Addr} {l : List Str} {k : Str} {u : Tok}

/-- a set of the texts l (each once) at a -/
def TxR (P : Program) (w : World) (h : Heap) (a : Addr) (l : List Str) : Prop :=
  (∃ D : SD, h.get? a = some (sObj "set" D) ∧ TxOk P w D l ∧ Ris D.2.2.place.toList ∧ (w.params.followText "set-order" = true ∨ D.2.2.led = true)) ∧ l.Nodup ∧ l.length < scanBound

theorem TxR.keep {h h' : Heap} (R : TxR P w h a l) (q : ∀ o, h.get? a = some o → h'.get? a = some o) : TxR P w h' a l :=
  let ⟨⟨D, e, z⟩, n, f⟩ := R
  ⟨⟨D, q _ e, z⟩, n, f⟩

theorem add_order (D : SD) (x : Int) (v : Value) (r : Ris D.2.2.place.toList) : Ris (addTx x v D).2.2.place.toList ∧ (addTx x v D).2.2.led = D.2.2.led := by
  obtain ⟨es, ep, t⟩ := D
  have r1 := layNew_ris t es x v r
  have l1 := layNew_led t es x v
  show Ris (tailTx ep (layNew t es x v).1 (if (layNew t es x v).2.1.plain = true then { (layNew t es x v).2.1 with plain := false } else (layNew t es x v).2.1) (layNew t es x v).2.2.1).2.2.place.toList ∧ (tailTx ep (layNew t es x v).1 (if (layNew t es x v).2.1.plain = true then { (layNew t es x v).2.1 with plain := false } else (layNew t es x v).2.1) (layNew t es x v).2.2.1).2.2.led = t.led
  generalize layNew t es x v = Z at r1 l1 ⊢
  obtain ⟨es1, t1, wd, g⟩ := Z
  dsimp only at r1 l1 ⊢
  have r2 : Ris (if t1.plain = true then { t1 with plain := false } else t1).place.toList := by split <;> exact r1
  have l2 : (if t1.plain = true then { t1 with plain := false } else t1).led = t.led := by split <;> exact l1
  generalize (if t1.plain = true then { t1 with plain := false } else t1) = t2 at r2 l2 ⊢
  unfold tailTx
  split
  · exact ⟨relayAll_ris t2 es1 _, (relayAll_led t2 es1 _).trans l2⟩
  · exact ⟨r2, l2⟩

theorem add_dup {Q : Bool → Shared → Prop} {D : SD} (ho : s.heap.get? a = some (sObj "set" D)) (F : TxOk P w D l) (hk : k ∈ l) (hb : l.length < scanBound) (h : Q false s) : wpAny (model P w) A (setAddHashed a (.str k u) (hashStr w k)) Q E s := by
  obtain ⟨es, ep, t⟩ := D
  have dd : (sObj "set" (es, ep, t)).data = .set es ep t := rfl
  have ff : t.fits es.size = true := F.fit
  have el : ElemsOf (strKind P w) es.toList := F.el
  have zz : es.size = l.length := F.sz
  have b0 : es.size < scanBound := by omega
  have key : (strKind P w).is k (.str k u) = true := is_str k u
  unfold setAddHashed setAddHashedIn
  refine wpAny_holding (wpAny_bind (wpAny_setState_of ho dd ff ?_))
  dsimp only
  rw [byScan_of rfl b0 el]
  simp only [↓reduceIte]
  unfold setAddByScan
  refine wpAny_bind ?_
  refine wpAny_bind (wpAny_rule ?_)
  refine wpAny_bind (wpAny_setScan_of (knd := strKind P w) (k := k) key ho dd ff el ?_)
  cases hr : List.findIdx? (fun e => (strKind P w).is k e.2) es.toList with
  | some j => exact wpAny_pure (wpAny_pure h)
  | none =>
    obtain ⟨e, he, q⟩ := (F.mem k).mp hk
    have c := List.findIdx?_eq_none_iff.mp hr e he
    rw [q] at c
    cases c

theorem txr_add {Q : Bool → Shared → Prop} (R : TxR P w s.heap a l) (room : l.length + 1 < scanBound)
    (hQ : ∀ (b : Bool) h' l', Heap.SameBut a s.heap h' → TxR P w h' a l' → (∀ z, z ∈ l' ↔ z ∈ l ∨ z = k) → l'.length ≤ l.length + 1 → Q b { s with heap := h' }) :
    wpAny (model P w) A (setAddHashed a (.str k u) (hashStr w k)) Q E s := by
  obtain ⟨⟨D, ho, F, r, fl⟩, nd, few⟩ := id R
  by_cases hk : k ∈ l
  · refine add_dup ho F hk few ?_
    exact hQ false s.heap l (Heap.SameBut.refl a s.heap) R (fun z => ⟨Or.inl, fun q => q.elim id fun e => e ▸ hk⟩) (Nat.le_succ _)
  · refine add_x ho F hk room ?_
    have o := add_order D (hashStr w k) (.str k u) r
    refine hQ true _ (k :: l) (Heap.SameBut.update s.heap a _) ⟨⟨_, get_upd _ ho rfl, add_ok u F, o.1, fl.imp id fun z => o.2.trans z⟩, List.nodup_cons.mpr ⟨hk, nd⟩, room⟩ (fun z => ?_) (Nat.le_refl _)
    rw [List.mem_cons]
    exact Or.comm

theorem txr_new {h : Heap} (e : h.get? a = some { cls := .type "set", dict := none, data := .set #[] 0 (.fresh 0 0 (!w.params.followText "set-order")) }) : TxR P w h a [] := by
  refine ⟨⟨(#[], 0, .fresh 0 0 (!w.params.followText "set-order")), e, TxOk.nil rfl, List.Pairwise.nil, ?_⟩, List.nodup_nil, by decide⟩
  show _ ∨ (!w.params.followText "set-order") = true
  cases w.params.followText "set-order"
  · exact .inr rfl
  · exact .inl rfl

/-- set.update's turns over texts -/
theorem loop_txt {I : Addr} {fp wr : List Addr} {G : Array GenState → Array GenState → Prop} {n : Nat} {Pv : Nat → Value → Prop} {St : Nat → Shared → Prop} {R : Result → Shared → Prop}
    (W : WalksS P w A.in1 I fp wr G n Pv St) (S : Addr) (nS : S ∉ fp) (xs : List Str) (hn : n = xs.length) (room : n + 1 < scanBound) (val : ∀ i v, Pv i v → ∃ x t, xs[i]? = some x ∧ v = .str x t) :
    ∀ (k i : Nat) (s : Shared), n - i = k → i ≤ n → St i s → (∃ l, TxR P w s.heap S l ∧ (∀ z, z ∈ l ↔ z ∈ xs.take i) ∧ l.length ≤ i) →
      (∀ s' l, Moved (S :: wr) G s s' → TxR P w s'.heap S l → (∀ z, z ∈ l ↔ z ∈ xs) → R (.ok (.ret .none)) s') →
      codeAny (model P w) A (.builtin "set.update.loop" ⟨[.ref S, .ref I], []⟩) R s := by
  have sw : S ∉ wr := fun q => nS (W.sub _ q)
  have sub : ∀ b ∈ wr, b ∈ S :: wr := fun b q => List.mem_cons_of_mem _ q
  intro k
  induction k with
  | zero =>
    rintro i s hk hi hst ⟨l, hS, hm, _⟩ hR
    obtain rfl : i = n := by omega
    refine codeAny_builtin F.entry_set_update_loop ?_
    rw [Around.under_plainId F.plain_set_update_loop _]
    show wpAny _ A.in1 (pyNext (.ref I) >>= _) _ _ s
    refine wpAny_bind (W.done s _ _ hst fun s' mv => ?_)
    show wpAny _ A.in1 (ret Value.none) _ _ s'
    refine wpAny_pure (hR s' l (mv.mono sub) (hS.keep fun o e => mv.heap S o sw e) fun z => ?_)
    rw [hm z, hn, List.take_length]
  | succ k ih =>
    rintro i s hk hi hst ⟨l, hS, hm, hle⟩ hR
    have lt : i < n := by omega
    refine codeAny_builtin F.entry_set_update_loop ?_
    rw [Around.under_plainId F.plain_set_update_loop _]
    show wpAny _ A.in1 (pyNext (.ref I) >>= _) _ _ s
    refine wpAny_bind (W.item i s _ _ lt hst fun v s' pv' hst' mv => ?_)
    obtain ⟨x, t, ex, rfl⟩ := val i v pv'
    have hS' : TxR P w s'.heap S l := hS.keep fun o e => mv.heap S o sw e
    show wpAny _ A.in1 (holding [Value.str x t] (setAdd S (.str x t)) >>= _) _ _ s'
    refine wpAny_bind (wpAny_holding ?_)
    unfold setAdd
    refine wpAny_holding (wpAny_bind ((strKind P w).pyHash (is_str x t) ?_))
    refine txr_add (s := { s' with toks := s'.toks + 1 }) hS' (by omega) fun b h' l' same R' m' le' => ?_
    have tk : xs.take (i + 1) = xs.take i ++ [x] := by rw [List.take_add_one, ex]; rfl
    refine wpAny_pure ⟨plainId_quiet F.plain_set_update_loop _, ih (i + 1) _ (by omega) lt (W.frame _ s' _ _ hst' (Nat.le_add_right _ _) fun b hb o e => ?_) ⟨l', R', fun z => ?_, by omega⟩ fun s'' l2 mv2 R2 m2 => ?_⟩
    · rw [same.2 b (fun q : b = S => nS (q ▸ hb))]
      exact e
    · rw [m' z, hm z, tk, List.mem_append, List.mem_singleton]
    · refine hR s'' l2 (Moved.trans W.gtrans ((mv.mono sub).then_heap (Nat.le_add_right _ _) fun b o hb e => ?_) mv2) R2 m2
      rw [same.2 b (fun q : b = S => hb (q ▸ List.mem_cons_self))]
      exact e

abbrev set0 (w : World) : Obj := { cls := .type "set", dict := none, data := .set #[] 0 (.fresh 0 0 (!w.params.followText "set-order")) }

/-- how a builtin's tree ends, as a result R -/
def FinX (P : Program) (w : World) (B : Around) (R : Result → Shared → Prop) : Fin → Shared → Prop
  | .done f, s' => R (.ok f) s'
  | .again c', s' => c'.quiet = true ∧ codeAny (model P w) B c' R s'

/-- the set at S is filled from what stands at c -/
def Fills (P : Program) (w : World) (s : Shared) (c : Addr) (xs : List Str) : Prop :=
  ∀ (B : Around) (R : Result → Shared → Prop), B.handled = none →
    (∀ (h' : Heap) (tk : Nat) (l : List Str), TxR P w h' s.heap.objs.size l → (∀ z, z ∈ l ↔ z ∈ xs) → (∀ b o, s.heap.get? b = some o → h'.get? b = some o) → R (.ok (.ret .none)) { s with heap := h', toks := tk }) →
    wpAny (model P w) B.in1 (Builtin.«set.__init__» ⟨[.ref s.heap.objs.size, .ref c], []⟩) (FinX P w B R) (fun e s' => R (.error e) s') { s with heap := s.heap.push (set0 w) }

theorem strs_val {us : List Value} {xs : List Str} (h : StrsAre us xs) : us.length = xs.length ∧ ∀ (i : Nat) (v : Value), us[i]? = some v → ∃ x t, xs[i]? = some x ∧ v = .str x t := by
  induction h with
  | nil => exact ⟨rfl, fun i v q => by simp at q⟩
  | cons x t h ih =>
    refine ⟨congrArg (· + 1) ih.1, fun i v q => ?_⟩
    cases i with
    | zero => exact ⟨x, t, rfl, (Option.some.inj q).symm⟩
    | succ i => exact ih.2 i v q

section
variable {items : Array Value} {xs : List Str} {c : Addr}
theorem fill_end {I : Addr} {R : Result → Shared → Prop} (hI : I = s.heap.objs.size + 1)
    (hR : ∀ (h' : Heap) (tk : Nat) (l : List Str), TxR P w h' s.heap.objs.size l → (∀ z, z ∈ l ↔ z ∈ xs) → (∀ b o, s.heap.get? b = some o → h'.get? b = some o) → R (.ok (.ret .none)) { s with heap := h', toks := tk })
    {h0 : Heap} (k0 : ∀ b o, s.heap.get? b = some o → h0.get? b = some o) {s' : Shared} {l : List Str} (mv : Moved [s.heap.objs.size, I] (fun a b => b = a) { s with heap := h0 } s') (T : TxR P w s'.heap s.heap.objs.size l) (m : ∀ z, z ∈ l ↔ z ∈ xs) : R (.ok (.ret .none)) s' := by
  obtain ⟨h', g2, d2, t2, o2⟩ := s'
  have e1 : g2 = s.gens := mv.gens
  have e2 : d2 = s.drawn := mv.drawn
  have e3 : o2 = s.os := mv.os
  subst e1 e2 e3
  refine hR h' t2 l T m fun b o e => mv.heap b o (fun z => ?_) (k0 b o e)
  have lt : b < s.heap.objs.size := Heap.lt_size e
  rcases List.mem_cons.mp z with z | z
  · exact absurd z (Nat.ne_of_lt lt)
  · exact absurd ((List.mem_singleton.mp z).trans hI) (Nat.ne_of_lt (Nat.lt_succ_of_lt lt))

set_option maxHeartbeats 3200000 in
theorem fills_list (hl : s.heap.IsList c items) (hit : StrsAre items.toList xs) (room : xs.length + 1 < scanBound) : Fills P w s c xs := by
  intro B R hh hR
  obtain ⟨len, val⟩ := strs_val hit
  rw [Array.length_toList] at len
  obtain ⟨⟨k, dd, da, sl⟩, hob, hk, n, hd⟩ := hl
  simp only at hk hd
  subst hk hd
  have hob1 : (s.heap.push (set0 w)).get? c = some { cls := .type "list", dict := dd, data := .seq items n, slots := sl } := Heap.get?_push_of_some _ hob
  have f1 := F.sub_list_set
  have f2 := F.sub_list_frozenset
  have f3 : (Value.type "list" == Value.type "dict") = false := by decide
  have isl : (s.heap.push (set0 w)).IsList c items := ⟨_, hob1, rfl, n, rfl⟩
  unfold Builtin.«set.__init__» noKeywords Builtin.Frozenset.updateFrom
  generalize gq : pyIter = PI
  wp_walk
  subst gq
  refine wpAny_pyIter_list isl ?_
  refine wpAny_bind (wpAny_runValue ?_)
  have h3 : B.in1.in1.handled = none := by simp [hh]
  have lt : c < s.heap.objs.size := Heap.lt_size hob
  have z1 : (s.heap.push (set0 w)).objs.size = s.heap.objs.size + 1 := Heap.size_push ..
  have nI : c ≠ (s.heap.push (set0 w)).objs.size := by rw [z1]; exact Nat.ne_of_lt (Nat.lt_succ_of_lt lt)
  have nS : s.heap.objs.size ∉ [(s.heap.push (set0 w)).objs.size, c] := by
    rw [z1]
    simp only [List.mem_cons, List.not_mem_nil, or_false, not_or]
    exact ⟨Nat.ne_of_lt (Nat.lt_succ_self _), Nat.ne_of_gt lt⟩
  have get0 : (s.heap.push (set0 w)).get? s.heap.objs.size = some (set0 w) := Heap.get?_push_size _ rfl
  refine loop_txt ((Walks.list h3 _ c nI items).toS) s.heap.objs.size nS xs len (by omega) (fun i v q => val i v (by rw [Array.getElem?_toList]; exact q)) (items.size - 0) 0 _ (by omega) (Nat.zero_le _)
    ⟨⟨_, Heap.get?_push_size _ rfl, rfl, rfl⟩, isl.push _⟩ ⟨[], txr_new (Heap.get?_push_of_some _ get0), fun z => by simp, Nat.le_refl 0⟩ fun s' l mv T m => ?_
  have q := fill_end (R := R) z1 hR (fun b o e => Heap.get?_push_of_some _ (Heap.get?_push_of_some _ e)) mv T m
  show wpAny _ _ _ _ _ _
  refine wpAny_pure ?_
  show wpAny _ _ (ret Value.none) _ _ _
  exact wpAny_pure q
set_option maxHeartbeats 3200000 in
theorem fills_tuple (hl : s.heap.IsTuple c items) (hit : StrsAre items.toList xs) (room : xs.length + 1 < scanBound) : Fills P w s c xs := by
  intro B R hh hR
  obtain ⟨len, val⟩ := strs_val hit
  rw [Array.length_toList] at len
  obtain ⟨⟨k, dd, da, sl⟩, hob, hk, n, hd⟩ := hl
  simp only at hk hd
  subst hk hd
  have hob1 : (s.heap.push (set0 w)).get? c = some { cls := .type "tuple", dict := dd, data := .seq items n, slots := sl } := Heap.get?_push_of_some _ hob
  have f1 := F.sub_tuple_set
  have f2 := F.sub_tuple_frozenset
  have f3 : (Value.type "tuple" == Value.type "dict") = false := by decide
  have isl : (s.heap.push (set0 w)).IsTuple c items := ⟨_, hob1, rfl, n, rfl⟩
  unfold Builtin.«set.__init__» noKeywords Builtin.Frozenset.updateFrom
  generalize gq : pyIter = PI
  wp_walk
  subst gq
  refine wpAny_pyIter_tuple isl ?_
  refine wpAny_bind (wpAny_runValue ?_)
  have h3 : B.in1.in1.handled = none := by simp [hh]
  have lt : c < s.heap.objs.size := Heap.lt_size hob
  have z1 : (s.heap.push (set0 w)).objs.size = s.heap.objs.size + 1 := Heap.size_push ..
  have nI : c ≠ (s.heap.push (set0 w)).objs.size := by rw [z1]; exact Nat.ne_of_lt (Nat.lt_succ_of_lt lt)
  have nS : s.heap.objs.size ∉ [(s.heap.push (set0 w)).objs.size, c] := by
    rw [z1]
    simp only [List.mem_cons, List.not_mem_nil, or_false, not_or]
    exact ⟨Nat.ne_of_lt (Nat.lt_succ_self _), Nat.ne_of_gt lt⟩
  have get0 : (s.heap.push (set0 w)).get? s.heap.objs.size = some (set0 w) := Heap.get?_push_size _ rfl
  refine loop_txt ((Walks.tuple h3 _ c nI items).toS) s.heap.objs.size nS xs len (by omega) (fun i v q => val i v (by rw [Array.getElem?_toList]; exact q)) (items.size - 0) 0 _ (by omega) (Nat.zero_le _)
    ⟨⟨_, Heap.get?_push_size _ rfl, rfl, rfl⟩, isl.push _⟩ ⟨[], txr_new (Heap.get?_push_of_some _ get0), fun z => by simp, Nat.le_refl 0⟩ fun s' l mv T m => ?_
  have q := fill_end (R := R) z1 hR (fun b o e => Heap.get?_push_of_some _ (Heap.get?_push_of_some _ e)) mv T m
  show wpAny _ _ _ _ _ _
  refine wpAny_pure ?_
  show wpAny _ _ (ret Value.none) _ _ _
  exact wpAny_pure q

set_option maxHeartbeats 3200000 in
/-- set(xs), xs a list or tuple of texts -/
theorem set_call {Q : Value → Shared → Prop} (hh : A.handled = none) (fill : Fills P w s c xs)
    (h : ∀ (h' : Heap) (tk : Nat) (l : List Str), TxR P w h' s.heap.objs.size l → (∀ z, z ∈ l ↔ z ∈ xs) → (∀ b o, s.heap.get? b = some o → h'.get? b = some o) → Q (.ref s.heap.objs.size) { s with heap := h', toks := tk }) :
    wpAny (model P w) A (call (.type "set") [.ref c]) Q E s := by
  obtain ⟨c0, tl, hmro⟩ := F.called_set.mro
  have hmade := F.called_set.made
  have hsub := F.called_set.sub
  refine wpAny_call (codeAny_of_tree ?_)
  show wpAny _ _ (callAny (.type "set") _) _ _ _
  refine wpAny_pure ⟨Code.quiet_builtin _ (by decide +kernel), codeAny_builtin F.entry_type_call ?_⟩
  rw [Around.under_plain (weight_type_call_type "set" [.ref c] []) rfl]
  have h1 := F.called_set.notType
  have h2 := F.called_set.canCreate
  have h3 := F.typeCall_set_1 (.ref c)
  repeat (any_goals (first | assumption | wp_step))
  refine codeAny_mono (code_set_led1 (.ref c) (E := E) (Q₁ := fun obj s₁ => obj = .ref s.heap.objs.size ∧ s₁ = { s with heap := s.heap.push (set0 w) }) ⟨rfl, rfl⟩) fun r s1 hr => ?_
  rcases r with e | fl
  · exact hr
  rcases fl with _ | _ | _ | obj
  all_goals try exact hr.elim
  obtain ⟨rfl, rfl⟩ := hr
  have hS : (s.heap.push (set0 w)).get? s.heap.objs.size = some (set0 w) := Heap.get?_push_size _ rfl
  have tS : Shared.TypeIs { s with heap := s.heap.push (set0 w) } (.ref s.heap.objs.size) "set" := ⟨_, hS, rfl⟩
  have i1 := F.called_set.init.lookup
  have i2 := F.called_set.init.bind (.ref s.heap.objs.size)
  repeat (any_goals (first | assumption | wp_step))
  refine codeAny_mono (codeAny_call_builtin (R := wants (fun r s₂ => r = .none ∧ ∃ h' tk l, s₂ = { s with heap := h', toks := tk } ∧ TxR P w h' s.heap.objs.size l ∧ (∀ z, z ∈ l ↔ z ∈ xs) ∧ (∀ b o, s.heap.get? b = some o → h'.get? b = some o)) E)
    F.called_set.init.plain F.entry_set_init (check_set_init_1 tS ?_)) fun r2 s2 h2 => ?_
  · refine wpAny_mono (fill A.in1 (wants (fun r s₂ => r = .none ∧ ∃ h' tk l, s₂ = { s with heap := h', toks := tk } ∧ TxR P w h' s.heap.objs.size l ∧ (∀ z, z ∈ l ↔ z ∈ xs) ∧ (∀ b o, s.heap.get? b = some o → h'.get? b = some o)) E) (by simp [hh])
      fun h' tk l T m k => ⟨rfl, h', tk, l, rfl, T, m, k⟩) (fun fin s' q => ?_) fun _ _ q => q
    cases fin <;> exact q
  · rcases r2 with e | fl
    · exact h2
    rcases fl with _ | _ | _ | obj
    all_goals try exact h2.elim
    obtain ⟨rfl, h', tk, l, rfl, R, m, k⟩ := h2
    repeat (any_goals (first | assumption | wp_step))
    exact h _ _ _ R m k

theorem strs_get {l : List Str} : ∀ {vs : List Value}, (∀ v ∈ vs, ∃ x t, v = .str x t) → ∃ ys, StrsAre vs ys
  | [], _ => ⟨[], .nil⟩
  | v :: vs, h => by
    obtain ⟨x, t, rfl⟩ := h v List.mem_cons_self
    obtain ⟨ys, q⟩ := strs_get (l := l) fun u hu => h u (List.mem_cons_of_mem _ hu)
    exact ⟨x :: ys, .cons x t q⟩
theorem strs_mem {x : Str} : ∀ {vs : List Value} {ys : List Str}, StrsAre vs ys → (x ∈ ys ↔ ∃ t, Value.str x t ∈ vs)
  | _, _, .nil => by simp
  | _, _, .cons y t h => by
    rw [List.mem_cons, strs_mem h]
    constructor
    · rintro (rfl | ⟨u, q⟩)
      · exact ⟨t, List.mem_cons_self⟩
      · exact ⟨u, List.mem_cons_of_mem _ q⟩
    · rintro ⟨u, q⟩
      rcases List.mem_cons.mp q with e | q
      · injection e with e _
        exact .inl e
      · exact .inr ⟨u, q⟩

/-- sorted(a set of texts) -/
theorem sorted_txr {a : Addr} {l : List Str} {Q : Value → Shared → Prop} (T : TxR P w s.heap a l) (hh : A.handled = none)
    (hQ : ∀ s' p (out : Array Value) (c : Nat) (ys : List Str), (∀ b o, s.heap.get? b = some o → s'.heap.get? b = some o) → s'.gens = s.gens → s'.os = s.os → s.heap.objs.size ≤ p →
      s'.heap.get? p = some (seqObj "list" out c) → StrsAre out.toList ys → sortedS ys = true → (∀ z, z ∈ ys ↔ z ∈ l) → ys.length = l.length → Q (.ref p) s') :
    wpAny (model P w) A (call (.builtin "sorted") [.ref a]) Q E s := by
  obtain ⟨⟨⟨es, ep, t⟩, ho, F, r, fl⟩, nd, few⟩ := T
  have zz : es.size = l.length := F.sz
  refine Calls.call_function_entry kind_sorted plain_sorted entry_sorted (args_sorted1 _) ?_
  unfold Builtin.«sorted»
  refine wpAny_bind (m := checkCount "sorted" 1 1 _) (wpAny_pure ?_)
  refine wpAny_bind (collect_set (A := A.in1) hh ⟨_, ho, rfl, rfl⟩ F.fit (by rw [zz]; exact few) r fl fun s1 vs k1 hz g1 o1 pm => ?_)
  have all : ∀ v ∈ vs, ∃ x t, v = .str x t := fun v hv => by
    obtain ⟨e, he, rfl⟩ := List.mem_map.mp (pm.mem_iff.mp hv)
    obtain ⟨⟨x, hx, _⟩, _⟩ := F.el e he
    obtain ⟨t, q⟩ := Value.isStrOf_shape (x := x) (v := e.2) hx
    exact ⟨x, t, q⟩
  obtain ⟨ws, hS⟩ := strs_get (l := l) all
  have len := (strs_val hS).1
  have lvs : vs.length = l.length := by rw [pm.length_eq, List.length_map, Array.length_toList]; exact zz
  have mem : ∀ z, z ∈ ws ↔ z ∈ l := fun z => by
    rw [strs_mem hS, F.mem z]
    constructor
    · rintro ⟨t, q⟩
      obtain ⟨e, he, e2⟩ := List.mem_map.mp (pm.mem_iff.mp q)
      exact ⟨e, he, by rw [e2]; exact is_str z t⟩
    · rintro ⟨e, he, q⟩
      obtain ⟨t, e2⟩ := Value.isStrOf_shape (x := z) (v := e.2) q
      exact ⟨t, pm.mem_iff.mpr (List.mem_map.mpr ⟨e, he, e2⟩)⟩
  have few2 : vs.length ≤ sizeLine := by rw [lvs]; exact fits_of_scanBound few
  refine wpAny_bind (wpAny_newList ?_ few2)
  have hoL : (s1.heap.push (seqObj "list" vs.toArray 0)).get? s1.heap.objs.size = some (seqObj "list" vs.toArray 0) := Heap.get?_push_size _ rfl
  refine wpAny_bind (wpAny_holding (wpAny_call_entry slot_list_sort ⟨_, hoL, rfl⟩ entry_list_sort (list_sort_treeKAny strKind_oneLt hoL hS.keysOf (fun v₁ v₂ rest e => keyKind_strs (by rw [← e]; exact hS)) few2 fun st' hp hs => ⟨_, rfl, ?_⟩) (args_list_sort _)))
  obtain ⟨ys, g1', g2, g3⟩ := sorted_out_str hS hp hs
  obtain ⟨c, hc⟩ := sortedHeap_at (vs := vs) (out := (arrOf st').map (·.2)) hoL
  refine wpAny_pure ⟨_, rfl, hQ _ s1.heap.objs.size _ c ys (fun b u e => ?_) g1 o1 hz hc g1' g3 (fun z => by rw [g2.mem_iff, mem z]) (by rw [g2.length_eq, ← len, lvs])⟩
  have q := k1 b u e
  have lt := Heap.lt_size q
  show (sortedHeap (s1.heap.push (seqObj "list" vs.toArray 0)) s1.heap.objs.size vs _).get? b = some u
  rw [sortedHeap_old (Nat.ne_of_lt lt) (by rw [size_push']; exact Nat.lt_succ_of_lt lt)]
  exact Heap.get?_push_of_some _ q
end
end

/-! ### over the hand layer -/
section
variable {X : Cx}
def TxO (P : Program) (w : World) (a : Addr) (l : List Str) : HO := .ext fun h => TxR P w h a l
theorem txo_new {P : Program} {w : World} {H : Hp} {h : Heap} {a : Addr} {l : List Str} (R : TxR P w h a l) : ObjOk P w H h a (TxO P w a l) :=
  ⟨R, let ⟨⟨_, e, _⟩, _⟩ := R; ⟨_, e⟩, fun _ _ q k => q.keep k⟩

/-- set(xs) of a list or tuple of texts -/
def rSetS (K : PySem.W.Frag) (P : Program) (w : World) : List V → Hp → VK → Prop := fun vs H Q => ∃ (c : Addr) (xs : List Str), vs = [.ref c] ∧ (SqL K H c (xs.map V.str) ∨ SqT K H c (xs.map V.str)) ∧ xs.length < 4000 ∧
  ∀ (p : Addr) (l : List Str), H p = none → l.Nodup → (∀ z, z ∈ l ↔ z ∈ xs) → Q (.ref p) (upd H p (TxO P w p l))
theorem cr_setS (hc : X.calm = true) : CallR X (.type "set") (rSetS X.K X.prog X.w) := by
  intro pins s σ H vs us Q I r h
  obtain ⟨c, xs, rfl, hs, few, q⟩ := h
  rw [Vals.ref1 r]
  have hn : H s.heap.objs.size = none := I.hok.fresh (Nat.le_refl _)
  have fill : Fills X.prog X.w s c xs := by
    rcases hs with hs | hs
    · obtain ⟨its, rv, pl, hz⟩ := I.list hs
      exact fills_list pl.isList (by simpa using rv.strs) (by unfold scanBound; omega)
    · obtain ⟨its, rv, pl, hz⟩ := I.tuple hs
      exact fills_tuple pl (by simpa using rv.strs) (by unfold scanBound; omega)
  refine set_call (I.ok.hd hc) fill fun h' tk l T m k => ?_
  exact ⟨.ref s.heap.objs.size, _, I.laid (t' := tk) k (Nat.le_refl _) (txo_new T), rfl, q _ l hn T.2.1 m⟩

/-- sorted(a set of texts) -/
def rSortedX (P : Program) (w : World) : List V → Hp → VK → Prop := fun vs H Q => ∃ (a : Addr) (l : List Str), vs = [.ref a] ∧ H a = some (TxO P w a l) ∧
  ∀ (ys : List Str) (p : Addr), sortedS ys = true → (∀ z, z ∈ ys ↔ z ∈ l) → ys.length = l.length → H p = none → Q (.ref p) (upd H p (.lst (ys.map V.str)))
theorem cr_sortedX (hc : X.calm = true) : CallR X (.builtin "sorted") (rSortedX X.prog X.w) := by
  intro pins s σ H vs us Q I r h
  obtain ⟨a, l, rfl, ha, q⟩ := h
  have T : TxR X.prog X.w s.heap a l := (I.hok a _ ha).1
  rw [Vals.ref1 r]
  refine sorted_txr T (I.ok.hd hc) fun s' p out c ys k g o hp hg hS so m len => ?_
  have hn : H p = none := I.hok.fresh hp
  have few : (ys.map V.str).length ≤ sizeLine := by rw [List.length_map, len]; exact fits_of_scanBound T.2.2
  have J : Inv X pins σ (upd H p (.lst (ys.map V.str))) { s with heap := s'.heap, gens := s'.gens, drawn := s'.drawn, toks := s'.toks } :=
    I.call (ch := []) (Un.laid k hp hn) (I.hok.laid k hp ⟨few, out.toList, c, vals_of_strs hS, hg⟩) (by rw [g]; exact I.bare) fun _ z => nomatch z
  have e : s' = { s with heap := s'.heap, gens := s'.gens, drawn := s'.drawn, toks := s'.toks } := by
    rcases s' with ⟨_, _, _, _, _⟩
    cases o
    rfl
  rw [e]
  exact ⟨.ref p, _, J, rfl, q ys p so m len hn⟩
end
end Mf
/-! Operators of own classes (dunder methods that are plain defs), over the hand layer. -/
namespace Mf
open PySem PySem.Spec PyProof.Rows L2

section
variable {X : Cx} {CX : CXT} {k : Nat} {f C a dx : Addr} {fd : FuncData} {ps : List Str} {sp : Sp} {E : XK} {ds : List Value} {dvs : List V} {pins : List (Addr × Obj)} {σ : L2.St} {H : Hp} {s : Shared} {fs : List (Str × V)}

theorem Inv.inst (I : Inv X pins σ H s) (e : H a = some (.ins C dx fs)) : ∃ od, PySem.W.InstAt s.heap a (PySem.W.instObj C dx) C (some od) :=
  let ⟨_, O, _⟩ := ins_get I.hok e
  let ⟨od, i, _⟩ := O.look
  ⟨od, i⟩

/-- a def runs, from anywhere under the body X -/
theorem run_in {A : Around} {Q : VK} {us : List Value} {vs : List V} (F : FnOk X.prog X.w X.K X.mg X.base CX k f fd ps sp) (hr : Room k A) (hb : Binds X.K fd ps ds) (hd : Vals dvs ds) (hx : Passes CX X E)
    (e0 : Env0 X.prog X.w X.K X.mg X.base A X.stack s H) (I : Inv X pins σ H s) (r : Vals vs us) (h : sp (vs ++ dvs) H Q E) : wpAny (model X.prog X.w) A (call (.ref f) us) (EP X pins σ Q) X.xe s := by
  have r2 : Vals (vs ++ dvs) (us ++ ds) := r.append hd
  have hl : (us ++ ds).length = ps.length := by rw [← r2.length]; exact F.len _ _ _ _ h
  refine wpAny_call (codeAny_mono (F.run A X.stack s H ⟨us, []⟩ (us ++ ds) (vs ++ dvs) Q E hr e0 (hb s us I.kIn hl) r2 h) fun r s' hq => ?_)
  rcases r with e | fl
  · exact hx pins σ H s e s' I hq
  · rcases fl with _ | _ | _ | u
    all_goals first | exact False.elim hq | exact I.after hq

/-- what type the other operand has: it isn't below C -/
def NotBelow (K : PySem.W.Frag) (C : Addr) (y : V) (H : Hp) : Prop := ∃ t, TyX K H y t ∧ PySem.W.notFirst K C t = true

/-- x op y by the class's own def -/
def rCmpO (K : PySem.W.Frag) (C : Addr) (sp : Sp) (E : XK) : R2 := fun x y H Q => ∃ a dx fs, x = .ref a ∧ H a = some (.ins C dx fs) ∧ NotBelow K C y H ∧ sp [x, y] H Q E
theorem op_cmpO {op : CmpOp} (m : Meth X.K C (cmpInfo op).2.1 f) (F : FnOk X.prog X.w X.K X.mg X.base CX k f fd ps sp) (hr : Room k X.A) (hb : Binds X.K fd ps []) (hx : Passes CX X E)
    (hop : ∀ a b, compareOp op a b = richCompare op a b := by exact fun _ _ => rfl) : OpR X (compareOp op) (rCmpO X.K C sp E) := by
  intro pins s σ H x y v u Q I rx ry h
  obtain ⟨a, dx, fs, rfl, ha, ⟨t, ty, nb⟩, q⟩ := h
  cases (show v = Value.ref a from rx)
  obtain ⟨od, J⟩ := Inv.inst I ha
  obtain ⟨mm, hF⟩ := I.fr
  obtain ⟨Pk, Z, p, _⟩ := kit_of I ry ty
  rw [hop]
  refine PySem.W.cmp_K (op := op) (tb := t) hr.units0 hF I.ok.mod.kin J (Z.ty _ _ I.kIn p) nb m.at_ m.fn ?_
  refine wpAny_mono (run_in (us := [.ref a, u]) (vs := [.ref a, y]) F hr hb .nil hx I.env0 I (.cons rfl (.cons ry .nil)) (by rw [List.append_nil]; exact q)) (fun z s' e => ?_) fun _ _ e => e
  obtain ⟨z', H', I', rz, qz⟩ := e
  exact SlX.cmpback rz ⟨z', H', I', rz, qz⟩

/-- x != y by the class's own __eq__ -/
def rNeO (K : PySem.W.Frag) (C : Addr) (sp : Sp) (E : XK) : R2 := fun x y H Q => ∃ a dx fs, x = .ref a ∧ H a = some (.ins C dx fs) ∧ NotBelow K C y H ∧ sp [x, y] H (fun v H' => ∃ b, v = .bl b ∧ Q (.bl (!b)) H') E
theorem op_neO (m : Meth X.K C "__eq__" f) (ne : PySem.W.findIn X.K (.ref C) "__ne__" = some (some (.builtin "object.__ne__"))) (mo : PySem.W.mroIn X.K C (.type "object") = some true)
    (F : FnOk X.prog X.w X.K X.mg X.base CX k f fd ps sp) (hr : Room (k + 1) X.A) (hb : Binds X.K fd ps []) (hx : Passes CX X E) : OpR X (compareOp .NotEq) (rNeO X.K C sp E) := by
  intro pins s σ H x y v u Q I rx ry h
  obtain ⟨a, dx, fs, rfl, ha, ⟨t, ty, nb⟩, q⟩ := h
  cases (show v = Value.ref a from rx)
  obtain ⟨od, J⟩ := Inv.inst I ha
  obtain ⟨Pk, Z, p, _⟩ := kit_of I ry ty
  have Lb : PySem.W.Looks (model X.prog X.w) s.heap (typeOf u) t := Z.ty _ _ I.kIn p
  have core : wpAny (model X.prog X.w) X.A (call (.builtin "object.__ne__") [.ref a, u]) (EP X pins σ Q) X.xe s := by
    refine wpAny_call (codeAny_call_builtin PySem.F.cmp_object.ne.plain PySem.F.cmpEntry_ne (PySem.W.check_slot (i := "object.__ne__") (owner := "object") (n := "__ne__") PySem.F.cmpKind_ne PySem.F.cmpSplit_ne (J.type.andThen (PySem.W.looks_mroIn I.kIn mo)) (PySem.F.cmpArgs_ne _ _) ?_))
    unfold Builtin.«object.__ne__»
    refine wpAny_bind (m := slotArgs "__ne__" 1 _) (wpAny_pure ?_)
    refine wpAny_bind (m := cRoomFor _ _) (wpAny_cRoomFor (hr.in1).units0 ?_)
    refine wpAny_bind (m := callSpecialIfBound? (.ref a) (Str.ofString "__eq__") _) (PySem.W.ifBound_K I.kIn J m.at_ m.fn ?_)
    refine wpAny_mono (run_in (us := [.ref a, u]) (vs := [.ref a, y]) F hr.in1 hb .nil hx I.env0.in1 I (.cons rfl (.cons ry .nil)) (by rw [List.append_nil]; exact q)) (fun z s' e => ?_) fun _ _ e => e
    obtain ⟨z', H', I', rz, b, rfl, qz⟩ := e
    cases (show z = Value.bool b from rz)
    exact wpAny_bind (wpAny_truthy_bool (wpAny_pure ⟨.bl (!b), H', I', rfl, qz⟩))
  have one : wpAny (model X.prog X.w) X.A (tryCompare (.ref a) "__ne__" u) (fun r s' => ∃ v, r = some v ∧ EP X pins σ Q v s') X.xe s := by
    unfold tryCompare
    refine wpAny_bind ?_
    simp only [callSpecialIfBound?, bindSpecialIfBound?]
    refine wpAny_holding (wpAny_bind (wpAny_bind (wpAny_bind (J.type.here ((PySem.W.looks_findIn I.kIn ne).here ?_)))))
    simp only [PySem.F.cmp_object.ne.bind]
    have fin : wpAny (model X.prog X.w) X.A (call (.builtin "object.__ne__") ([.ref a] ++ [u]) >>= fun v => pure (some v)) (fun a_1 s' => wpAny (model X.prog X.w) X.A (match a_1 with
        | some Value.notImplemented | none => pure none
        | some v => pure (some v)) (fun r s' => ∃ v, r = some v ∧ EP X pins σ Q v s') X.xe s') X.xe s := by
      refine wpAny_bind (wpAny_mono core (fun z s' e => wpAny_pure ?_) fun _ _ e => e)
      have e2 := e
      obtain ⟨z', H', I', rz, qz⟩ := e2
      have nn : PySem.W.CmpBack (fun z s' => EP X pins σ Q z s') z s' := SlX.cmpback rz e
      cases z <;> first | exact nn.elim | exact wpAny_pure ⟨_, rfl, nn⟩
    refine wpAny_bind (wpAny_askSetting (wpAny_ite ?_))
    split
    · exact wpAny_bind (wpAny_pure (wpAny_pure fin))
    · exact wpAny_tryCatch (wpAny_bind (wpAny_pure (wpAny_pure fin)))
  show wpAny _ _ (richCompare .NotEq (.ref a) u) _ _ s
  unfold richCompare
  simp only [oneThing_ref]
  refine wpAny_holding (wpAny_bind (wpAny_cRoomFor hr.units0 ?_))
  refine wpAny_bind (J.type.here (wpAny_bind (Lb.here ?_)))
  split
  · rename_i h1
    have e : PySem.W.subIn X.K t (.ref C) = some false := by
      rcases Bool.or_eq_true_iff.mp nb with e | e
      · rw [beq_iff_eq.mp e] at h1; simp at h1
      · exact beq_iff_eq.mp e
    refine wpAny_bind ((PySem.W.looks_subIn I.kIn e).here ?_)
    simp only [Bool.false_eq_true, if_false]
    refine wpAny_bind (wpAny_mono one (fun r s' z => ?_) fun _ _ e => e)
    obtain ⟨v, rfl, hq⟩ := z
    exact wpAny_pure hq
  · refine wpAny_bind (wpAny_pure ?_)
    simp only [Bool.false_eq_true, if_false]
    refine wpAny_bind (wpAny_mono one (fun r s' z => ?_) fun _ _ e => e)
    obtain ⟨v, rfl, hq⟩ := z
    exact wpAny_pure hq

/-- x op y, both of the class -/
def rBinO (C : Addr) (sp : Sp) (E : XK) : R2 := fun x y H Q => ∃ a dx fs b dy gs, x = .ref a ∧ y = .ref b ∧ H a = some (.ins C dx fs) ∧ H b = some (.ins C dy gs) ∧ sp [x, y] H Q E
theorem op_binO {op : Operator} (m : Meth X.K C (PySem.dunder op.info.2) f) (sf : PySem.W.selfFirst X.K C = true) (F : FnOk X.prog X.w X.K X.mg X.base CX k f fd ps sp) (hr : Room k X.A) (hb : Binds X.K fd ps []) (hx : Passes CX X E) :
    OpR X (binaryOp op) (rBinO C sp E) := by
  intro pins s σ H x y v u Q I rx ry h
  obtain ⟨a, dx, fs, b, dy, gs, rfl, rfl, ha, hb', q⟩ := h
  cases (show v = Value.ref a from rx)
  cases (show u = Value.ref b from ry)
  obtain ⟨od, J⟩ := Inv.inst I ha
  obtain ⟨oe, J'⟩ := Inv.inst I hb'
  obtain ⟨mm, hF⟩ := I.fr
  refine PySem.W.binop_K hF I.ok.mod.kin J J'.type sf m.at_ m.fn ?_
  refine wpAny_mono (run_in (us := [.ref a, .ref b]) (vs := [.ref a, .ref b]) F hr hb .nil hx I.env0 I (.cons rfl (.cons rfl .nil)) (by rw [List.append_nil]; exact q)) (fun z s' e => ?_) fun _ _ e => e
  obtain ⟨z', H', I', rz, qz⟩ := e
  exact SlX.cmpback rz ⟨z', H', I', rz, qz⟩

/-- y in x, y not in x -/
def rInO (C : Addr) (neg : Bool) (sp : Sp) (E : XK) : R2 := fun y x H Q => ∃ a dx fs, x = .ref a ∧ H a = some (.ins C dx fs) ∧ sp [x, y] H (fun v H' => ∃ b, v = .bl b ∧ Q (.bl (if neg then !b else b)) H') E
theorem op_inO (m : Meth X.K C "__contains__" f) (F : FnOk X.prog X.w X.K X.mg X.base CX k f fd ps sp) (hr : Room k X.A) (hb : Binds X.K fd ps []) (hx : Passes CX X E) : OpR X (compareOp .In) (rInO C false sp E) := by
  intro pins s σ H y x u v Q I ry rx h
  obtain ⟨a, dx, fs, rfl, ha, q⟩ := h
  cases (show v = Value.ref a from rx)
  obtain ⟨od, J⟩ := Inv.inst I ha
  obtain ⟨mm, hF⟩ := I.fr
  refine PySem.W.in_K hF I.ok.mod.kin J m.at_ m.fn ?_
  refine wpAny_mono (run_in (us := [.ref a, u]) (vs := [.ref a, y]) F hr hb .nil hx I.env0 I (.cons rfl (.cons ry .nil)) (by rw [List.append_nil]; exact q)) (fun z s' e => ?_) fun _ _ e => e
  obtain ⟨z', H', I', rz, b, rfl, qz⟩ := e
  cases (show z = Value.bool b from rz)
  exact wpAny_truthy_bool ⟨.bl b, H', I', rfl, qz⟩
theorem op_notInO (m : Meth X.K C "__contains__" f) (F : FnOk X.prog X.w X.K X.mg X.base CX k f fd ps sp) (hr : Room k X.A) (hb : Binds X.K fd ps []) (hx : Passes CX X E) : OpR X (compareOp .NotIn) (rInO C true sp E) := by
  intro pins s σ H y x u v Q I ry rx h
  obtain ⟨a, dx, fs, rfl, ha, q⟩ := h
  cases (show v = Value.ref a from rx)
  obtain ⟨od, J⟩ := Inv.inst I ha
  obtain ⟨mm, hF⟩ := I.fr
  refine PySem.W.notIn_K hF I.ok.mod.kin J m.at_ m.fn ?_
  refine wpAny_mono (run_in (us := [.ref a, u]) (vs := [.ref a, y]) F hr hb .nil hx I.env0 I (.cons rfl (.cons ry .nil)) (by rw [List.append_nil]; exact q)) (fun z s' e => ?_) fun _ _ e => e
  obtain ⟨z', H', I', rz, b, rfl, qz⟩ := e
  cases (show z = Value.bool b from rz)
  exact wpAny_truthy_bool ⟨.bl (!b), H', I', rfl, qz⟩

/-- len(x) -/
def rLenO (C : Addr) (sp : Sp) (E : XK) : List V → Hp → VK → Prop := fun xs H Q => ∃ a dx fs, xs = [.ref a] ∧ H a = some (.ins C dx fs) ∧ sp xs H (fun v H' => ∃ n : Nat, v = .int n ∧ n < 2 ^ 62 ∧ Q v H') E
theorem call_lenO (m : Meth X.K C "__len__" f) (F : FnOk X.prog X.w X.K X.mg X.base CX k f fd ps sp) (hr : Room (k + 1) X.A) (hb : Binds X.K fd ps []) (hx : Passes CX X E) : CallR X (.builtin "len") (rLenO C sp E) := by
  intro pins s σ H xs us Q I r h
  obtain ⟨a, dx, fs, rfl, ha, q⟩ := h
  rw [Vals.ref1 r]
  obtain ⟨od, J⟩ := Inv.inst I ha
  obtain ⟨mm, hF⟩ := I.fr
  refine PySem.W.len_K hF I.ok.mod.kin J m.at_ m.fn ?_
  refine wpAny_mono (run_in (us := [.ref a]) (vs := [.ref a]) F hr.in1 hb .nil hx I.env0.in1 I (.cons rfl .nil) (by rw [List.append_nil]; exact q)) (fun z s' e => ?_) fun _ _ e => e
  obtain ⟨z', H', I', rz, n, rfl, hn, qz⟩ := e
  obtain ⟨t, rfl⟩ := (show ∃ t, z = Value.int n t from rz)
  exact ⟨⟨by omega, by omega⟩, .int n, H', I'.tok _, ⟨_, rfl⟩, qz⟩

/-- x[y] -/
def rGetO (C : Addr) (sp : Sp) (E : XK) : R2 := fun x y H Q => ∃ a dx fs, x = .ref a ∧ H a = some (.ins C dx fs) ∧ sp [x, y] H Q E
theorem pe_getO {o i : Expr} {to ti : TE} {pos : Pos} (m : Meth X.K C "__getitem__" f) (fn : PySem.W.fnIn X.K f = true) (F : FnOk X.prog X.w X.K X.mg X.base CX k f fd ps sp) (hr : Room (k + 1) X.A) (hb : Binds X.K fd ps []) (hx : Passes CX X E) (ho : PE X o to) (hi : PE X i ti)
    (hsl : ∀ x y, subscripted i true x y = runValue (.builtin "lifetime.subscript" ⟨[x, y], []⟩) := by intro _ _; with_unfolding_all rfl) : PE X (.Subscript o i pos) (tOp (rGetO C sp E) to ti) := by
  refine ⟨fun pins s σ H Q I h => ?_⟩
  refine Subscript_ (binT ho hi I h fun v u s2 x y H2 I2 rx ry q => ?_)
  obtain ⟨a, dx, fs, rfl, ha, q⟩ := q
  cases (show v = Value.ref a from rx)
  obtain ⟨od, J⟩ := Inv.inst I2 ha
  obtain ⟨mm, hF⟩ := I2.fr
  refine PySem.W.sub_K hF I2.ok.mod.kin J m.at_ fn m.fn ?_ (hsl _ _)
  exact run_in (us := [.ref a, u]) (vs := [.ref a, y]) F hr.in1 hb .nil hx I2.env0.in1 I2 (.cons rfl (.cons ry .nil)) (by rw [List.append_nil]; exact q)
end
end Mf
/-! Heaps with a source of draws; calls by one fact; texts that are names. -/
namespace Mf
open PySem L2

/-! ### heaps -/
/-- all that was tracked but what stands at a is as it was -/
def Kp (a : Addr) (H H' : Hp) : Prop := ∀ b o, b ≠ a → H b = some o → H' b = some o
theorem Kp.refl {a : Addr} {H : Hp} : Kp a H H := fun _ _ _ h => h
theorem Kp.trans {a : Addr} {H H1 H2 : Hp} (x : Kp a H H1) (y : Kp a H1 H2) : Kp a H H2 := fun b o n h => y b o n (x b o n h)
theorem Kp.same {a : Addr} {H H' : Hp} (x : Same H H') : Kp a H H' := fun b o _ h => x b o h
theorem Kp.then {a : Addr} {H H1 H2 : Hp} (x : Kp a H H1) (y : Same H1 H2) : Kp a H H2 := x.trans (.same y)
theorem Kp.new {a p : Addr} {H : Hp} {o : HO} (h : H p = none) : Kp a H (upd H p o) := fun b u _ e => by rw [upd_ne (ne_of_none e h)]; exact e
theorem Kp.put {a : Addr} {H H1 : Hp} {o : HO} (x : Kp a H H1) : Kp a H (upd H1 a o) := fun b u n e => by rw [upd_ne n]; exact x b u n e
/-- p was not there at H: it may change -/
theorem Kp.mut {a p : Addr} {H H1 : Hp} {o : HO} (x : Kp a H H1) (h : H p = none) : Kp a H (upd H1 p o) := fun b u n e => by rw [upd_ne (ne_of_none e h)]; exact x b u n e
theorem Kp.lst {K : PySem.W.Frag} {a t : Addr} {H H' : Hp} {xs : List V} (x : Kp a H H') (n : t ≠ a) (h : SqL K H t xs) : SqL K H' t xs := by
  rcases h with (h | ⟨o, h⟩) | h
  · exact .inl (.inl (x _ _ n h))
  · exact .inl (.inr ⟨o, x _ _ n h⟩)
  · exact .inr h
theorem Kp.tup {K : PySem.W.Frag} {a t : Addr} {H H' : Hp} {xs : List V} (x : Kp a H H') (n : t ≠ a) (h : SqT K H t xs) : SqT K H' t xs := by
  rcases h with (h | ⟨o, h⟩) | h
  · exact .inl (.inl (x _ _ n h))
  · exact .inl (.inr ⟨o, x _ _ n h⟩)
  · exact .inr h
theorem _root_.L2.Same.new {p : Addr} {H : Hp} {o : HO} (h : H p = none) : Same H (upd H p o) := fun b u e => by rw [upd_ne (ne_of_none e h)]; exact e
theorem _root_.L2.Same.mut {p : Addr} {H H1 : Hp} {o : HO} (x : Same H H1) (h : H p = none) : Same H (upd H1 p o) := fun b u e => by rw [upd_ne (ne_of_none e h)]; exact x b u e
theorem _root_.L2.Same.tup {K : PySem.W.Frag} {t : Addr} {H H' : Hp} {xs : List V} (x : Same H H') (h : SqT K H t xs) : SqT K H' t xs := by
  rcases h with (h | ⟨o, h⟩) | h
  · exact .inl (.inl (x _ _ h))
  · exact .inl (.inr ⟨o, x _ _ h⟩)
  · exact .inr h
theorem ne_none {H : Hp} {p a : Addr} {o : HO} (h : H p = none) (h' : H a = some o) : p ≠ a := fun e => by rw [e, h'] at h; cases h

/-! ### the source of draws -/
/-- at a: a source that has n draws left, and more -/
def Src (H : Hp) (a : Addr) (n : Nat) : Prop := ∃ g s c : Int, H a = some (.lst [.int g, .int s, .int c]) ∧ 0 ≤ s ∧ s < 2147483647 ∧ 0 ≤ c ∧ c + n ≤ 1099511627776
theorem Src.mono {H : Hp} {a : Addr} {n m : Nat} (x : Src H a n) (h : m ≤ n) : Src H a m := let ⟨g, s, c, e, a1, a2, a3, a4⟩ := x; ⟨g, s, c, e, a1, a2, a3, by omega⟩
theorem Src.same {H H' : Hp} {a : Addr} {n : Nat} (x : Src H a n) (h : Same H H') : Src H' a n := let ⟨g, s, c, e, r⟩ := x; ⟨g, s, c, h _ _ e, r⟩
theorem Src.ne {H : Hp} {a p : Addr} {n : Nat} (x : Src H a n) (h : H p = none) : p ≠ a := let ⟨_, _, _, e, _⟩ := x; ne_none h e
theorem Src.new {H : Hp} {a p : Addr} {n : Nat} {o : HO} (x : Src H a n) (h : H p = none) : Src (upd H p o) a n := x.same (Same.new h)
theorem Src.put {H : Hp} {a p : Addr} {n : Nat} {o : HO} (x : Src H a n) (h : p ≠ a) : Src (upd H p o) a n := let ⟨g, s, c, e, r⟩ := x; ⟨g, s, c, by rw [upd_ne (Ne.symm h)]; exact e, r⟩

/-! ### a def that is called by its name: one fact -/
structure Cal (P : Program) (w : World) (K : PySem.W.Frag) (mg : Str → Option Value) (base : Heap) (CX : CXT) (k : Nat) (x : Str) (ps : List Str) (sp : Sp) : Prop where
  ex : ∃ (f : Addr) (fd : FuncData), FnOk P w K mg base CX k f fd ps sp ∧ mg x = some (.ref f) ∧ PySem.W.keepIn K (.ref f) = true ∧ Binds K fd ps []
theorem pe_cal {X : Cx} {CX : CXT} {k : Nat} {x : Str} {ps : List Str} {sp : Sp} {E : XK} {e : Expr} {es : List Expr} {t : TA} {p pos : Pos} (c : Cal X.prog X.w X.K X.mg X.base CX k x ps sp) (hr : Room k X.A) (hx : Passes CX X E) (ha : PA X (e :: es) t) (hg : Gl X x := by rfl)
    (hdb : (x == ("__debug__" : Str)) = false := by decide) (he : starEach (e :: es) X.env = (false, eval e X.env) :: starEach es X.env := by rfl) (hpl : (backTo pos (starEach es X.env)).any (·.1) = false := by rfl) :
    PE X (.Call (.Name x p) (e :: es) [] pos) (tCall sp [] E t) := by
  obtain ⟨f, fd, F, m, kp, b⟩ := c.ex
  exact pe_call F hr hg m kp b .nil hx ha hdb he hpl
theorem Cal.mono {P : Program} {w : World} {K : PySem.W.Frag} {mg : Str → Option Value} {base : Heap} {CX : CXT} {k j : Nat} {x : Str} {ps : List Str} {sp : Sp} (c : Cal P w K mg base CX k x ps sp) (h : k ≤ j) : Cal P w K mg base CX j x ps sp :=
  let ⟨f, fd, F, m, kp, b⟩ := c.ex
  ⟨⟨f, fd, F.mono h, m, kp, b⟩⟩

/-! ### names -/
def Low (c : Nat) : Prop := 97 ≤ c ∧ c ≤ 122
def IsName (z : Str) : Prop := 1 ≤ z.cps.size ∧ z.cps.size ≤ 8 ∧ ∀ c ∈ z.cps.toList, Low c
instance (z : Str) : Decidable (IsName z) := by unfold IsName Low; infer_instance
theorem IsName.len {z : Str} (h : IsName z) : z.length ≤ 8 := h.2.1

theorem alpha_at {i : Int} (h0 : 0 ≤ i) (h : i < 26) : ∃ c, atI ("abcdefghijklmnopqrstuvwxyz" : Str).cps.toList i = some c ∧ Low c := by
  obtain ⟨n, rfl⟩ := Int.eq_ofNat_of_zero_le h0
  have e : ∀ n : Fin 26, atI ("abcdefghijklmnopqrstuvwxyz" : Str).cps.toList ((n.val : Nat) : Int) = some (97 + n.val) := by decide +kernel
  exact ⟨97 + n, e ⟨n, by omega⟩, by unfold Low; omega⟩

theorem atI_mem {α : Type} {xs : List α} {v : Int} (h0 : 0 ≤ v) (h : v < xs.length) : ∃ x ∈ xs, atI xs v = some x := by
  obtain ⟨n, rfl⟩ := Int.eq_ofNat_of_zero_le h0
  have hn : n < xs.length := by omega
  refine ⟨xs[n], List.getElem_mem hn, ?_⟩
  exact atI_nat (List.getElem?_eq_getElem hn)
theorem inV_str {z : Str} {zs : List Str} : inV (.str z) (zs.map V.str) = decide (z ∈ zs) := by
  unfold inV
  induction zs with
  | nil => rfl
  | cons y ys ih =>
    rw [List.map_cons, List.any_cons, ih]
    show ((y == z) || _) = _
    by_cases h : y = z
    · subst h; simp
    · have h' : ¬ z = y := fun e => h e.symm
      simp [h, h']
theorem tl_inj {x y : Str} (h : x.cps.toList = y.cps.toList) : x = y := by
  cases x; cases y
  simp only [Str.mk.injEq]
  exact Array.toList_inj.mp h
theorem join_nil (ys : List Str) : (Txt.join ("" : Str) ys).cps.toList = (ys.map fun y => y.cps.toList).flatten := by
  rw [TL.join_eq, show (Str.join ("" : Str) ys).cps.toList = TL.tl (Str.join ("" : Str) ys) from rfl, TL.tl_join]
  show TL.joinL [] (ys.map TL.tl) = _
  generalize ys.map TL.tl = l
  induction l with
  | nil => rfl
  | cons p r ih =>
    cases r with
    | nil => simp [TL.joinL]
    | cons q r => show p ++ ([] ++ TL.joinL [] (q :: r)) = _; rw [ih]; simp
theorem join_signs (cs : List Nat) : Txt.join ("" : Str) (cs.map fun c => (⟨#[c]⟩ : Str)) = ⟨cs.toArray⟩ := by
  refine tl_inj ?_
  rw [join_nil, List.map_map]
  show (cs.map fun c => [c]).flatten = cs
  induction cs with
  | nil => rfl
  | cons c cs ih => rw [List.map_cons, List.flatten_cons, ih]; rfl
theorem str_add (x y : Str) : (x ++ y).cps.toList = x.cps.toList ++ y.cps.toList := TL.tl_append x y
theorem len_tl (z : Str) : z.length = z.cps.toList.length := by show z.cps.size = _; rw [Array.length_toList]

/-! ### rules whose reading names the written part (for comprehensions' blocks) -/
section
variable (K : PySem.W.Frag) {X : Cx}
theorem ixl (h : X.K = K := by rfl) : IxR X (rIxL K) := h ▸ ix_list
theorem ixt (h : X.K = K := by rfl) : IxR X (rIxT K) := h ▸ ix_tup
theorem oin (h : X.K = K := by rfl) : OpR X (compareOp .In) (rIn K false) := h ▸ op_in_seq
theorem nin (h : X.K = K := by rfl) : OpR X (compareOp .NotIn) (rIn K true) := h ▸ op_notIn_seq
def rLenK : List V → Hp → VK → Prop := fun xs H Q => ∃ p ys, xs = [.ref p] ∧ (SqL K H p ys ∨ SqT K H p ys) ∧ Q (.int (ys.length : Nat)) H
theorem k_len (h : X.K = K := by rfl) : CallR X (.builtin "len") (rLenK K) := h ▸ call_len_seq
def rListK : List V → Hp → VK → Prop := fun xs H Q => ∃ p ys, xs = [.ref p] ∧ (SqL K H p ys ∨ SqT K H p ys) ∧ ∀ l, H l = none → Q (.ref l) (upd H l (.lst ys))
theorem k_list (h : X.K = K := by rfl) : CallR X (.type "list") (rListK K) := h ▸ call_list_of
def rTupK : List V → Hp → VK → Prop := fun xs H Q => ∃ p ys, xs = [.ref p] ∧ ((SqL K H p ys ∧ ∀ l, H l = none → Q (.ref l) (upd H l (.tup ys))) ∨ (SqT K H p ys ∧ Q (.ref p) H))
theorem k_tuple (h : X.K = K := by rfl) : CallR X (.type "tuple") (rTupK K) := h ▸ call_tuple_of
theorem k_isi (h : X.K = K := by rfl) : CallR X (.builtin "isinstance") (rIsi K) := h ▸ call_isi
theorem k_all (hc : X.calm = true := by rfl) (h : X.K = K := by rfl) : CallR X (.builtin "all") (rAll K) := h ▸ cr_all hc
theorem k_any (hc : X.calm = true := by rfl) (h : X.K = K := by rfl) : CallR X (.builtin "any") (rAny K) := h ▸ cr_any hc
theorem k_sortedS (h : X.K = K := by rfl) : CallR X (.builtin "sorted") (rSortedS K) := h ▸ cr_sortedS
theorem eqD {k : Nat} (hr : Room k X.A) (h : X.K = K := by rfl) : OpR X (compareOp .Eq) (rEqD K) := h ▸ op_eqD hr.units
theorem neD {k : Nat} (hr : Room k X.A) (h : X.K = K := by rfl) : OpR X (compareOp .NotEq) (rNeD K) := h ▸ op_neD hr.units
theorem fldK {e : Expr} {ta : TE} {f : Str} {pos : Pos} (he : PE X e ta) (hb : attributeBase e f X.env (eval e X.env) = eval e X.env := by rfl) (h : X.K = K := by rfl) : PE X (.Attribute e f pos) (tFld K ta f) := h ▸ pe_fld he hb
end
theorem yes_then {σ : L2.St} {H : Hp} {A B : Hp → Prop} (h : A H) : tYes σ H (fun b H3 => if b = true then A H3 else B H3) := by
  show (if true = true then A H else B H)
  rw [if_pos rfl]
  exact h
end Mf
/-! Sorted texts: the order, and that a sorted row without repeats is the only one of its members. -/
namespace Mf
open PySem L2
theorem lt_irr : ∀ l : List Nat, Spec.ltCps l l = false
  | [] => rfl
  | a :: r => by
    show (decide (a < a) || (a == a && Spec.ltCps r r)) = false
    rw [lt_irr r]; simp
theorem lt_asym : ∀ l m : List Nat, Spec.ltCps l m = true → Spec.ltCps m l = false
  | [], [], h => rfl
  | [], _ :: _, _ => rfl
  | _ :: _, [], h => by cases h
  | a :: r, b :: t, h => by
    have h : (decide (a < b) || (a == b && Spec.ltCps r t)) = true := h
    show (decide (b < a) || (b == a && Spec.ltCps t r)) = false
    simp only [Bool.or_eq_true, decide_eq_true_eq, Bool.and_eq_true, beq_iff_eq] at h
    simp only [Bool.or_eq_false_iff, decide_eq_false_iff_not, Bool.and_eq_false_iff, beq_eq_false_iff_ne]
    rcases h with h2 | ⟨rfl, h2⟩
    · exact ⟨by omega, .inl (by omega)⟩
    · exact ⟨by omega, .inr (lt_asym r t h2)⟩
theorem lt_tri : ∀ l m : List Nat, Spec.ltCps l m = false → Spec.ltCps m l = false → l = m
  | [], [], _, _ => rfl
  | [], _ :: _, h, _ => by cases h
  | _ :: _, [], _, h => by cases h
  | a :: r, b :: t, h, g => by
    have h : (decide (a < b) || (a == b && Spec.ltCps r t)) = false := h
    have g : (decide (b < a) || (b == a && Spec.ltCps t r)) = false := g
    simp only [Bool.or_eq_false_iff, decide_eq_false_iff_not, Bool.and_eq_false_iff, beq_eq_false_iff_ne] at h g
    obtain rfl : a = b := by omega
    rw [lt_tri r t (h.2.resolve_left fun n => n rfl) (g.2.resolve_left fun n => n rfl)]
theorem lt_trans : ∀ l m n : List Nat, Spec.ltCps l m = true → Spec.ltCps m n = true → Spec.ltCps l n = true
  | [], [], _, h, _ => by cases h
  | [], _ :: _, [], _, h => by cases h
  | [], _ :: _, _ :: _, _, _ => rfl
  | _ :: _, [], _, h, _ => by cases h
  | _ :: _, _ :: _, [], _, h => by cases h
  | a :: r, b :: t, c :: u, h, g => by
    have h : (decide (a < b) || (a == b && Spec.ltCps r t)) = true := h
    have g : (decide (b < c) || (b == c && Spec.ltCps t u)) = true := g
    show (decide (a < c) || (a == c && Spec.ltCps r u)) = true
    simp only [Bool.or_eq_true, decide_eq_true_eq, Bool.and_eq_true, beq_iff_eq] at h g ⊢
    rcases h with h2 | ⟨rfl, h2⟩
    · rcases g with g2 | ⟨rfl, g2⟩
      · left; omega
      · left; exact h2
    · rcases g with g2 | ⟨rfl, g2⟩
      · left; exact g2
      · right; exact ⟨rfl, lt_trans r t u h2 g2⟩
def Lt (x y : Str) : Prop := Spec.ltCps x.cps.toList y.cps.toList = true
theorem Lt.ne {x y : Str} (h : Lt x y) : x ≠ y := fun e => by subst e; unfold Lt at h; rw [lt_irr] at h; cases h
theorem Lt.asymm {x y : Str} (h : Lt x y) : ¬ Lt y x := fun g => by unfold Lt at h g; rw [lt_asym _ _ h] at g; cases g
theorem Lt.trans {x y z : Str} (h : Lt x y) (g : Lt y z) : Lt x z := lt_trans _ _ _ h g
theorem not_lt {x y : Str} (h : Spec.ltCps y.cps.toList x.cps.toList = false) (n : x ≠ y) : Lt x y := by
  unfold Lt
  cases e : Spec.ltCps x.cps.toList y.cps.toList with
  | true => rfl
  | false => exact absurd (tl_inj (lt_tri _ _ e h)) n
/-- in order, each once -/
def Up (l : List Str) : Prop := l.Pairwise Lt
theorem Up.nd {l : List Str} (h : Up l) : l.Nodup := List.Pairwise.imp (fun h => h.ne) h
theorem rising_up : ∀ (l : List Str) (p : Str), PyProof.Rows.risingS p l = true → (p :: l).Nodup → Up (p :: l)
  | [], p, _, _ => List.pairwise_singleton _ _
  | x :: r, p, h, nd => by
    have h : (!Spec.ltCps x.cps.toList p.cps.toList && PyProof.Rows.risingS x r) = true := h
    obtain ⟨h1, h2⟩ := Bool.and_eq_true_iff.mp h
    obtain ⟨n1, n2⟩ := List.nodup_cons.mp nd
    have u := rising_up r x h2 n2
    have px : Lt p x := not_lt (by simpa using h1) fun e => n1 (e ▸ List.mem_cons_self)
    refine List.pairwise_cons.mpr ⟨fun y hy => ?_, u⟩
    rcases List.mem_cons.mp hy with rfl | hy
    · exact px
    · exact px.trans ((List.pairwise_cons.mp u).1 y hy)
theorem up_of {l : List Str} (h : PyProof.Rows.sortedS l = true) (nd : l.Nodup) : Up l := by
  cases l with
  | nil => exact List.Pairwise.nil
  | cons x r => exact rising_up r x h nd
theorem up_one : ∀ {xs ys : List Str}, Up xs → Up ys → (∀ z, z ∈ xs ↔ z ∈ ys) → xs = ys
  | [], [], _, _, _ => rfl
  | [], y :: _, _, _, h => absurd ((h y).mpr List.mem_cons_self) (by simp)
  | x :: _, [], _, _, h => absurd ((h x).mp List.mem_cons_self) (by simp)
  | x :: xs, y :: ys, u, v, h => by
    obtain ⟨u1, u2⟩ := List.pairwise_cons.mp u
    obtain ⟨v1, v2⟩ := List.pairwise_cons.mp v
    have e : x = y := by
      rcases List.mem_cons.mp ((h x).mp List.mem_cons_self) with e | m
      · exact e
      · rcases List.mem_cons.mp ((h y).mpr List.mem_cons_self) with e | m'
        · exact e.symm
        · exact absurd (u1 y m') (v1 x m).asymm
    subst e
    rw [up_one u2 v2 fun z => ?_]
    constructor
    · intro m
      rcases List.mem_cons.mp ((h z).mp (List.mem_cons_of_mem _ m)) with e | q
      · exact absurd e.symm (u1 z m).ne
      · exact q
    · intro m
      rcases List.mem_cons.mp ((h z).mpr (List.mem_cons_of_mem _ m)) with e | q
      · exact absurd e.symm (v1 z m).ne
      · exact q
theorem nodup_le {α : Type} [DecidableEq α] : ∀ {l m : List α}, l.Nodup → l ⊆ m → l.length ≤ m.length
  | [], _, _, _ => Nat.zero_le _
  | x :: l, m, nd, sub => by
    obtain ⟨n1, n2⟩ := List.nodup_cons.mp nd
    have hx : x ∈ m := sub List.mem_cons_self
    have ih := nodup_le (m := m.erase x) n2 fun y hy => (List.mem_erase_of_ne (by rintro rfl; exact n1 hy)).mpr (sub (List.mem_cons_of_mem _ hy))
    rw [List.length_erase_of_mem hx] at ih
    have := List.length_pos_of_mem hx
    rw [List.length_cons]
    omega
theorem nodup_len {α : Type} [DecidableEq α] : ∀ {ys l : List α}, l.Nodup → l ⊆ ys → ys.length = l.length → ys.Nodup
  | [], _, _, _, _ => List.nodup_nil
  | y :: ys, l, nd, sub, e => by
    have hy : y ∈ l := Classical.byContradiction fun n => by
      have q := nodup_le (m := ys) nd fun z hz => (List.mem_cons.mp (sub hz)).resolve_left (by rintro rfl; exact n hz)
      rw [List.length_cons] at e
      omega
    have ny : y ∉ ys := fun m => by
      have q := nodup_le (m := ys) nd fun z hz => by
        rcases List.mem_cons.mp (sub hz) with rfl | h
        · exact m
        · exact h
      rw [List.length_cons] at e
      omega
    refine List.nodup_cons.mpr ⟨ny, nodup_len (l := l.erase y) (nd.erase y) (fun z hz => ?_) ?_⟩
    · obtain ⟨h1, h2⟩ := (nd.mem_erase_iff).mp hz
      exact (List.mem_cons.mp (sub h2)).resolve_left h1
    · rw [List.length_erase_of_mem hy, ← e, List.length_cons]; rfl
theorem sum_len {ys : List Str} {B : Nat} (h : ∀ y ∈ ys, y.length ≤ B) : (ys.map (·.length)).sum ≤ ys.length * B := by
  induction ys with
  | nil => simp
  | cons y ys ih =>
    rw [List.map_cons, List.sum_cons, List.length_cons, Nat.succ_mul]
    have a := h y List.mem_cons_self
    have b := ih fun z hz => h z (List.mem_cons_of_mem _ hz)
    omega
theorem flat_strs (zs : List Str) : (zs.map V.str).all flatV = true := by rw [List.all_map]; exact List.all_eq_true.mpr fun _ _ => rfl

/-! ### data that are compared -/
theorem dpS {K : PySem.W.Frag} {H : Hp} : ∀ zs : List Str, DpAll K H (zs.map V.str) (zs.map PyData.str)
  | [] => .nil
  | z :: zs => .cons (.str z) (dpS zs)
theorem dpB {K : PySem.W.Frag} {H : Hp} : ∀ bs : List Bool, DpAll K H (bs.map V.bl) (bs.map PyData.bool)
  | [] => .nil
  | b :: bs => .cons (.bl b) (dpB bs)
theorem eqvB : ∀ bs cs : List Bool, PyData.eqvAll (bs.map PyData.bool) (cs.map PyData.bool) = decide (bs = cs)
  | [], [] => rfl
  | [], _ :: _ => rfl
  | _ :: _, [] => rfl
  | b :: bs, c :: cs => by
    show ((b == c) && PyData.eqvAll (bs.map PyData.bool) (cs.map PyData.bool)) = _
    rw [eqvB bs cs]
    by_cases h : b = c <;> simp [h]
theorem eqvS : ∀ bs cs : List Str, PyData.eqvAll (bs.map PyData.str) (cs.map PyData.str) = decide (bs = cs)
  | [], [] => rfl
  | [], _ :: _ => rfl
  | _ :: _, [] => rfl
  | b :: bs, c :: cs => by
    show ((b == c) && PyData.eqvAll (bs.map PyData.str) (cs.map PyData.str)) = _
    rw [eqvS bs cs]
    by_cases h : b = c <;> simp [h]
theorem layB : ∀ bs : List Bool, PyData.canLayAll0 (bs.map PyData.bool) = true
  | [] => rfl
  | b :: bs => by show (true && PyData.canLayAll0 (bs.map PyData.bool)) = true; rw [layB bs]; rfl
theorem layS : ∀ zs : List Str, (∀ z ∈ zs, PyData.strOk z = true) → PyData.canLayAll0 (zs.map PyData.str) = true
  | [], _ => rfl
  | z :: zs, h => by
    show (PyData.strOk z && PyData.canLayAll0 (zs.map PyData.str)) = true
    rw [h z List.mem_cons_self, layS zs fun y hy => h y (List.mem_cons_of_mem _ hy)]; rfl
theorem depAll : ∀ {ds : List PyData}, (∀ d ∈ ds, PyData.depth d = 0) → PyData.depthAll ds = 0
  | [], _ => rfl
  | d :: ds, h => by
    show max (PyData.depth d) (PyData.depthAll ds) = 0
    rw [h d List.mem_cons_self, depAll fun y hy => h y (List.mem_cons_of_mem _ hy)]; rfl
theorem shB (bs : List Bool) : SeqAt.shaped (.list (bs.map PyData.bool)) = true := by
  refine Bool.and_eq_true_iff.mpr ⟨layB bs, decide_eq_true ?_⟩
  show PyData.depthAll (bs.map PyData.bool) + 1 ≤ 64
  rw [depAll fun d hd => by obtain ⟨b, _, rfl⟩ := List.mem_map.mp hd; rfl]
  decide
theorem shT {zs : List Str} (h : ∀ z ∈ zs, PyData.strOk z = true) : SeqAt.shaped (.tuple (zs.map PyData.str)) = true := by
  refine Bool.and_eq_true_iff.mpr ⟨layS zs h, decide_eq_true ?_⟩
  show PyData.depthAll (zs.map PyData.str) + 1 ≤ 64
  rw [depAll fun d hd => by obtain ⟨b, _, rfl⟩ := List.mem_map.mp hd; rfl]
  decide
theorem shL {zs : List Str} (h : ∀ z ∈ zs, PyData.strOk z = true) : SeqAt.shaped (.list (zs.map PyData.str)) = true := by
  refine Bool.and_eq_true_iff.mpr ⟨layS zs h, decide_eq_true ?_⟩
  show PyData.depthAll (zs.map PyData.str) + 1 ≤ 64
  rw [depAll fun d hd => by obtain ⟨b, _, rfl⟩ := List.mem_map.mp hd; rfl]
  decide
theorem IsName.ok {z : Str} (h : IsName z) : PyData.strOk z = true := by
  show z.cps.all (fun x => decide (x < 1114112)) = true
  rw [← Array.all_toList, List.all_eq_true]
  intro c hc
  have := (h.2.2 c hc).2
  exact decide_eq_true (by omega)
end Mf
/-! Classes and methods by one fact each; readings of the own operators. -/
namespace Mf
open PySem L2
/-- C(..): the class at C, its __init__'s promise, the defaults that fill up -/
structure CalC (P : Program) (w : World) (K : PySem.W.Frag) (mg : Str → Option Value) (base : Heap) (CX : CXT) (k : Nat) (x : Str) (C : Addr) (ps : List Str) (sp : Sp) (dvs : List V) : Prop where
  ex : ∃ (f : Addr) (fd : FuncData) (ds : List Value), Mk K C f ∧ FnOk P w K mg base CX k f fd ps sp ∧ mg x = some (.ref C) ∧ Binds K fd ps ds ∧ Vals dvs ds
/-- a method -/
structure CalM (P : Program) (w : World) (K : PySem.W.Frag) (mg : Str → Option Value) (base : Heap) (CX : CXT) (k : Nat) (C : Addr) (m : Str) (ps : List Str) (sp : Sp) : Prop where
  ex : ∃ (f : Addr) (fd : FuncData), Meth K C m f ∧ PySem.W.fnIn K f = true ∧ FnOk P w K mg base CX k f fd ps sp ∧ Binds K fd ps []
section
variable {X : Cx} {CX : CXT} {k : Nat} {x m : Str} {C : Addr} {ps : List Str} {sp : Sp} {dvs : List V} {E : XK} {e o : Expr} {es : List Expr} {t : TA} {p pos apos : Pos} {ta to ti : TE}
theorem pe_mkc (c : CalC X.prog X.w X.K X.mg X.base CX k x C ps sp dvs) (hr : Room (k + 1) X.A) (hx : Passes CX X E) (ha : PA X (e :: es) t) (hg : Gl X x := by rfl)
    (hdb : (x == ("__debug__" : Str)) = false := by decide) (he : starEach (e :: es) X.env = (false, eval e X.env) :: starEach es X.env := by rfl) (hpl : (backTo pos (starEach es X.env)).any (·.1) = false := by rfl) :
    PE X (.Call (.Name x p) (e :: es) [] pos) (tMake C sp dvs E t) := by
  obtain ⟨f, fd, ds, M, F, mm, b, v⟩ := c.ex
  exact pe_make M F hr hg mm b v hx ha hdb he hpl
theorem pe_mkc0 (c : CalC X.prog X.w X.K X.mg X.base CX k x C ps sp dvs) (hr : Room (k + 1) X.A) (hx : Passes CX X E) (hg : Gl X x := by rfl) (hdb : (x == ("__debug__" : Str)) = false := by decide) :
    PE X (.Call (.Name x p) [] [] pos) (tMake C sp dvs E tNil) := by
  obtain ⟨f, fd, ds, M, F, mm, b, v⟩ := c.ex
  exact pe_make0 M F hr hg mm b v hx hdb
theorem om_cmp {op : CmpOp} (K : PySem.W.Frag) (c : CalM X.prog X.w X.K X.mg X.base CX k C (cmpInfo op).2.1 ps sp) (hr : Room k X.A) (hx : Passes CX X E) (hop : ∀ a b, compareOp op a b = richCompare op a b := by exact fun _ _ => rfl) (h : X.K = K := by rfl) : OpR X (compareOp op) (rCmpO K C sp E) := by
  obtain ⟨f, fd, M, _, F, b⟩ := c.ex
  exact h ▸ op_cmpO M F hr b hx hop
theorem om_ne (K : PySem.W.Frag) (c : CalM X.prog X.w X.K X.mg X.base CX k C "__eq__" ps sp) (ne : PySem.W.findIn X.K (.ref C) "__ne__" = some (some (.builtin "object.__ne__"))) (mo : PySem.W.mroIn X.K C (.type "object") = some true)
    (hr : Room (k + 1) X.A) (hx : Passes CX X E) (h : X.K = K := by rfl) : OpR X (compareOp .NotEq) (rNeO K C sp E) := by
  obtain ⟨f, fd, M, _, F, b⟩ := c.ex
  exact h ▸ op_neO M ne mo F hr b hx
theorem om_bin {op : Operator} (c : CalM X.prog X.w X.K X.mg X.base CX k C (PySem.dunder op.info.2) ps sp) (sf : PySem.W.selfFirst X.K C = true) (hr : Room k X.A) (hx : Passes CX X E) : OpR X (binaryOp op) (rBinO C sp E) := by
  obtain ⟨f, fd, M, _, F, b⟩ := c.ex
  exact op_binO M sf F hr b hx
theorem om_in (c : CalM X.prog X.w X.K X.mg X.base CX k C "__contains__" ps sp) (hr : Room k X.A) (hx : Passes CX X E) : OpR X (compareOp .In) (rInO C false sp E) := by
  obtain ⟨f, fd, M, _, F, b⟩ := c.ex
  exact op_inO M F hr b hx
theorem om_notIn (c : CalM X.prog X.w X.K X.mg X.base CX k C "__contains__" ps sp) (hr : Room k X.A) (hx : Passes CX X E) : OpR X (compareOp .NotIn) (rInO C true sp E) := by
  obtain ⟨f, fd, M, _, F, b⟩ := c.ex
  exact op_notInO M F hr b hx
theorem om_len (c : CalM X.prog X.w X.K X.mg X.base CX k C "__len__" ps sp) (hr : Room (k + 1) X.A) (hx : Passes CX X E) : CallR X (.builtin "len") (rLenO C sp E) := by
  obtain ⟨f, fd, M, _, F, b⟩ := c.ex
  exact call_lenO M F hr b hx
theorem om_get {i : Expr} (c : CalM X.prog X.w X.K X.mg X.base CX k C "__getitem__" ps sp) (hr : Room (k + 1) X.A) (hx : Passes CX X E) (ho : PE X o to) (hi : PE X i ti)
    (hsl : ∀ x y, subscripted i true x y = runValue (.builtin "lifetime.subscript" ⟨[x, y], []⟩) := by intro _ _; with_unfolding_all rfl) : PE X (.Subscript o i pos) (tOp (rGetO C sp E) to ti) := by
  obtain ⟨f, fd, M, fn, F, b⟩ := c.ex
  exact pe_getO M fn F hr b hx ho hi hsl
theorem om_meth {pl : Sem Bool} (he : PE X o ta) (c : Cls X.K C) (cm : CalM X.prog X.w X.K X.mg X.base CX k C m ps sp) (hr : Room k X.A) (hx : Passes CX X E) (ha : PA X (e :: es) t)
    (hst : starEach (e :: es) X.env = (false, eval e X.env) :: starEach es X.env := by rfl) (hpl : (backTo pos (starEach es X.env)).any (·.1) = false := by rfl)
    (ht : eval (.Call (.Attribute o m apos) (e :: es) [] pos) X.env = (do
      let ov ← eval o X.env
      standAt apos.atName
      let (f, first) ← holding [ov] (getMethod ov m pl)
      callWith pos f first (backTo pos (starEach (e :: es) X.env)) (backToKw pos (keywordEach [] X.env))) := by rfl) :
    PE X (.Call (.Attribute o m apos) (e :: es) [] pos) (tMeth C m sp [] E ta t) := by
  obtain ⟨f, fd, M, fn, F, b⟩ := cm.ex
  exact pe_meth he c M F hr b .nil hx ha hst hpl ht
theorem om_meth0 {pl : Sem Bool} (he : PE X o ta) (c : Cls X.K C) (cm : CalM X.prog X.w X.K X.mg X.base CX k C m ps sp) (hr : Room k X.A) (hx : Passes CX X E)
    (ht : eval (.Call (.Attribute o m apos) [] [] pos) X.env = (do
      let ov ← eval o X.env
      standAt apos.atName
      let (f, first) ← holding [ov] (getMethod ov m pl)
      callWith pos f first (backTo pos (starEach [] X.env)) (backToKw pos (keywordEach [] X.env))) := by rfl) :
    PE X (.Call (.Attribute o m apos) [] [] pos) (tMeth C m sp [] E ta tNil) := by
  obtain ⟨f, fd, M, fn, F, b⟩ := cm.ex
  exact pe_meth0 he c M F hr b .nil hx ht
end
/-- c and b, where b is asked without a change of the heap -/
theorem and_then {c b : Bool} {σ : L2.St} {H : Hp} {tb : TE} {Q : VK} (ht : c = true → ∀ Q' : VK, Q' (.bl b) H → tb σ H Q') (k : Q (.bl (c && b)) H) : if c = true then tb σ H Q else Q (.bl false) H := by
  cases c with
  | true => exact iteT (ht rfl Q (by simpa using k))
  | false => exact iteF k
end Mf
/-! From the head's facts to calls. -/
namespace Mf
open PySem L2
theorem kit_self {K : PySem.W.Frag} {C : Addr} : PySem.W.kitOne K (.ref C) (.ref C) = some true := by unfold PySem.W.kitOne; rw [if_pos (by simp)]
theorem kit_own {K : PySem.W.Frag} {C : Addr} {T : String} {b : Bool} (i : PySem.W.isClsIn K C = true) (t : PySem.W.typeIn K (.ref C) = some (.type "type")) (s : PySem.W.subIn K (.type T) (.ref C) = some b) : PySem.W.kitOne K (.type T) (.ref C) = some b := by
  have i' : (PySem.W.clsIn K C).isSome = true := i
  unfold PySem.W.kitOne PySem.W.kitCls
  rw [if_neg (by simp)]
  show (if ((PySem.W.clsIn K C).isSome && PySem.W.typeIn K (.ref C) == some (.type "type")) = true then PySem.W.subIn K (.type T) (.ref C) else none) = some b
  rw [if_pos (by rw [i', t]; rfl)]
  exact s
theorem notFirst_of {K : PySem.W.Frag} {C : Addr} {T : String} (s : PySem.W.subIn K (.type T) (.ref C) = some false) : PySem.W.notFirst K C (.type T) = true := by
  unfold PySem.W.notFirst
  rw [s]; simp
/-- a def of the text as it stands behind the top -/
structure DefF (K : PySem.W.Frag) (x : Str) (st : Stmt) (f : Addr) : Prop where
  ex : ∃ (oc : Value) (od : Option Addr) (sl : Array (Option Value)) (kV dc pm : Value) (an : Option Addr) (cd ct : Value), PySem.W.nsIn K mainGlobals x = some (some (.ref f)) ∧
    K.lookup f = some ⟨oc, od, .func (PySem.W.fnOf x x (defArgs st) (defBody st) (defScope st) .none kV dc pm an cd ct), sl⟩ ∧ PySem.W.codeIn K cd x = true ∧ PySem.W.keepIn K (.ref f) = true
/-- a method of the class at C -/
structure MetF (K : PySem.W.Frag) (C : Addr) (m qual : Str) (st : Stmt) (f : Addr) : Prop where
  ex : ∃ (oc : Value) (od : Option Addr) (sl : Array (Option Value)) (kV dc pm : Value) (an : Option Addr) (cd ct : Value), PySem.W.findIn K (.ref C) m = some (some (.ref f)) ∧
    K.lookup f = some ⟨oc, od, .func (PySem.W.fnOf m qual (defArgs st) (defBody st) (defScope st) .none kV dc pm an cd ct), sl⟩ ∧ PySem.W.codeIn K cd qual = true ∧ PySem.W.keepIn K (.ref f) = true ∧ PySem.W.isFn K (.ref f) = true ∧ PySem.W.fnIn K f = true
section
variable {P : Program} {w : World} {K : PySem.W.Frag} {mg : Str → Option Value} {base h : Heap} {CX : CXT} {k : Nat} {x m qual : Str} {st : Stmt} {f C : Addr} {ps : List Str} {sp : Sp}
abbrev BindP (x qual : Str) (st : Stmt) (ps : List Str) : Prop := ∀ (kV doc pm : Value) (an : Option Addr) (cdv ct : Value) (us : List Value), us.length = ps.length → bindArgs (PySem.W.fnOf x qual (defArgs st) (defBody st) (defScope st) .none kV doc pm an cdv ct) ⟨us, []⟩ = pure (ps.zip us)
theorem DefF.cal (D : DefF K x st f) (X : K.In h) (G : h.Ns mainGlobals mg) (hb : BindP x x st ps) (ok : ∀ fd, Fun K x x st f fd → FnOk P w K mg base CX k f fd ps sp) : Cal P w K mg base CX k x ps sp := by
  obtain ⟨oc, od, sl, kV, dc, pm, an, cd, ct, a, l, c, q⟩ := D.ex
  have F := fun_mk (st := st) l c q
  exact ⟨⟨f, _, ok _ F, PySem.W.mg_of X G a, q, F.binds hb⟩⟩
theorem MetF.cal (D : MetF K C m qual st f) (hb : BindP m qual st ps) (ok : ∀ fd, Fun K m qual st f fd → FnOk P w K mg base CX k f fd ps sp) : CalM P w K mg base CX k C m ps sp := by
  obtain ⟨oc, od, sl, kV, dc, pm, an, cd, ct, a, l, c, q, i, n⟩ := D.ex
  have F := fun_mk (st := st) l c q
  exact ⟨⟨f, _, ⟨a, i, q⟩, n, ok _ F, F.binds hb⟩⟩
/-- the law itself -/
theorem DefF.law {fa : Addr} (D : DefF K "law" st f) (X : K.In h) (G : h.Ns mainGlobals mg) (hfa : mg "law" = some (.ref fa)) (hb : ∀ (kV doc pm : Value) (an : Option Addr) (cdv ct : Value) (s : Shared) (v : Value), BindsTo s (PySem.W.fnOf "law" "law" (defArgs st) (defBody st) (defScope st) .none kV doc pm an cdv ct) ⟨[v], []⟩ [("_law_script", v)])
    (ok : ∀ base : Heap, K.In base → base.Ns mainGlobals mg → ∀ fd, Fun K "law" "law" st f fd → FnOk P w K mg base CX0 k f fd ["_law_script"] sp) :
    ∃ fd : FuncData, (∀ (s : Shared) (v : Value), BindsTo s fd ⟨[v], []⟩ [("_law_script", v)]) ∧ ∀ base : Heap, K.In base → base.Ns mainGlobals mg → FnOk P w K mg base CX0 k fa fd ["_law_script"] sp := by
  obtain ⟨oc, od, sl, kV, dc, pm, an, cd, ct, a, l, c, q⟩ := D.ex
  have e := hfa.symm.trans (PySem.W.mg_of X G a)
  cases e
  exact ⟨_, hb kV dc pm an cd ct, fun base b1 b2 => ok base b1 b2 _ (fun_mk (st := st) l c q)⟩
/-- what a law takes and gives -/
def spLaw (K : PySem.W.Frag) : Sp := fun vs H Q _ => ∃ (a : Addr) (ns : List Int), vs = [.ref a] ∧ SqL K H a (ns.map V.int) ∧ ns.length ≤ 63 ∧ ∀ H', Q (.bl true) H'
end
theorem walk {n : Nat} {l : PySem.W.OpenLaw} {q : Program} {loose : List Str} {XP : (Str → Option Value) → Heap → Prop} {YP : World → Heap → Prop} {d : DefRec} {K : Params → PySem.W.Frag} (hn : l.most = some 63) (hdf : d.params.defaults = [])
    (hr : Room n callerA)
    (hY : ∀ (w : World) (h : Heap), YP w h → (K w.params).In h)
    (F : ∀ (w : World) (mg : Str → Option Value) (fa : Addr) (h : Heap), (K w.params).In h → h.Ns mainGlobals mg → mg d.name = some (.ref fa) →
      ∃ fd : FuncData, (∀ (s : Shared) (u : Value), BindsTo s fd ⟨[u], []⟩ [("_law_script", u)]) ∧ ∀ base : Heap, (K w.params).In base → base.Ns mainGlobals mg → FnOk l.prog w (K w.params) mg base CX0 n fa fd ["_law_script"] (spLaw (K w.params))) :
    PySem.W.WalkO q loose XP YP l.row.toRowW d [] (fun f vs => PySem.call f vs) :=
  L2.walk_of (n := 63) (k := n) (x := "_law_script") (CX := fun _ => CX0) (sp := fun w => spLaw (K w.params)) hn (by decide) hdf hr hY F (fun _ _ a ns hl _ hS => ⟨a, ns, rfl, hS, hl, fun _ => rfl⟩) fun _ _ _ _ _ z => z
end Mf
namespace Mf
open PySem L2
def top (i : Nat) : Stmt := PySem.Challenge.pw_midfall_k01_name_sets.main.body.getD i (.Pass ⟨0, 0, 0, 0⟩)
abbrev sSource : Stmt := top 3
abbrev sDraw : Stmt := top 4
section
variable {P : Program} {w : World} {K : PySem.W.Frag} {mg : Str → Option Value} {base : Heap}

/-! ### _law_source -/
def spSource (K : PySem.W.Frag) : Sp := fun vs H Q _ => ∃ (a : Addr) (ns : List Int), vs = [.ref a] ∧ SqL K H a (ns.map V.int) ∧ ns.length ≤ 63 ∧ ∀ p H', H p = none → Same H H' → Src H' p 1000000000 → Q (.ref p) H'
theorem scSource : FnScope ["_law_script", "_law_great", "_law_seed", "_law_k", "_law_cell"] ["_law_script"] (defScope sSource) := ⟨rfl, rfl, rfl, by decide +kernel, rfl, by decide +kernel, by decide +kernel⟩
theorem ok_source {f : Addr} {fd : FuncData} (F : Fun K "_law_source" "_law_source" sSource f fd) (mI : mg "int" = none) (mE : mg "enumerate" = none) : FnOk P w K mg base CX0 1 f fd ["_law_script"] (spSource K) := by
  refine F.ok scSource (fun vs H Q E h => ?_) (fun cdv A outer s H vs Q E hr h => ?_)
  · obtain ⟨a, ns, rfl, _⟩ := h
    rfl
  · obtain ⟨a, ns, rfl, hs, hl, k⟩ := h
    refine ⟨_, pss_cons (ps_set (i := 1) scSource.nd rfl (.inl rfl) pe_int) (pss_cons (ps_set (i := 2) scSource.nd rfl (.inl rfl) pe_int)
      (pss_cons (ps_for PassesOwn.never rfl (pi_enum (by rfl) mE (pa_cons (pv 0) pa_nil)) (pg_tup rfl (pgs_cons (pg_name (i := 3) scSource.nd rfl (.inl rfl)) (pgs_cons (pg_name (i := 4) scSource.nd rfl (.inl rfl)) pgs_nil)))
        (C8.pss_cut (ps_if (PW.pt (pw_and (pt_cmpR op_eq (pv 1) pe_int (nomark _)) (pw_and1 (pt_cmpR op_ge (pv 4) (pe_op op_pow pe_int pe_int) (nomark _))))) (pss_one (ps_set (i := 1) scSource.nd rfl (.inl rfl) (pv 4))) pss_nil)
        (pss_one (ps_set (i := 2) scSource.nd rfl (.inl rfl) (pe_op op_mod (pe_callTy call_int1 (by rfl) mI (by decide +kernel) (pa_cons (pe_op op_add (pe_op op_mul (pe_op op_add (pv 2) (pe_op op_mod (pe_callTy call_int1 (by rfl) mI (by decide +kernel) (pa_cons (pv 4) pa_nil)) pe_int)) pe_int) (pv 3)) pa_nil)) pe_int)))))
      (pss_one (ps_ret (pe_lst (pa_cons (pv 1) (pa_cons (pv 2) (pa_cons pe_int pa_nil)))))))), ?_⟩
    refine ⟨_, rfl, a, _, rfl, hs, ?_⟩
    refine for_it walk_enum (fun i σ H' => ∃ (g s : Int) (vk vc : Option V), σ = [some (.ref a), some (.int g), some (.int s), vk, vc] ∧ 0 ≤ s ∧ s < 2147483647 ∧ Same H H') ⟨0, 104729, none, none, rfl, by decide, by decide, Same.refl H⟩ (fun i σ H' _ h => h.choose_spec.choose_spec.choose_spec.choose_spec.2.2.2.seq hs) ?_ ?_
    · rintro i x σ H1 H2 hi ⟨g, s, vk, vc, rfl, s0, s1, sm⟩ ⟨T, x1, y, rfl, hT, rfl, e1, e2⟩
      obtain rfl : x1 = .int (i : Nat) := (Option.some.inj e1).symm
      have e2 : (ns.map V.int)[i]? = some y := e2
      rw [List.getElem?_map] at e2
      obtain ⟨m, _, rfl⟩ := Option.map_eq_some_iff.mp e2
      refine ⟨T, _, rfl, .of upd_same, rfl, _, _, rfl, _, _, rfl, rfl, ?_⟩
      refine ⟨fun σ' H' => ∃ g' : Int, σ' = [some (.ref a), some (.int g'), some (.int s), some (.int (i : Nat)), some (.int m)] ∧ H' = upd H1 T (.tup [.int (i : Nat), .int m]), ?_, ?_⟩
      · refine ⟨_, rfl, rfl, _, rfl, ite2 (fun _ => ?_) fun _ => ?_⟩
        · refine ⟨_, rfl, _, _, rfl, rfl, ⟨by decide, by decide, by decide⟩, _, _, rfl, rfl, _, rfl, ite2 (fun _ => ?_) fun _ => ?_⟩
          · exact ⟨_, rfl, m, rfl, rfl⟩
          · exact ⟨g, rfl, rfl⟩
        · exact iteF ⟨g, rfl, rfl⟩
      · rintro σ' H' ⟨g', rfl, rfl⟩
        refine ⟨_, rfl, _, rfl, .inl ⟨_, rfl, _, _, rfl, rfl, (by show (0 : Int) < 2147483629; decide), _, _, rfl, rfl, _, _, rfl, rfl, .inr ⟨(by show -(2 ^ 64) < (48271 : Int); decide), (by show (48271 : Int) < 2 ^ 64; decide)⟩, _, rfl, _, _, rfl, rfl, .inl ⟨_, rfl, _, _, rfl, rfl, (by show (0 : Int) < 2147483647; decide), ?_⟩⟩⟩
        exact ⟨_, _, _, _, rfl, Int.emod_nonneg _ (by decide), Int.emod_lt_of_pos _ (by decide), sm.trans (Same.new hT)⟩
    · rintro σ H1 ⟨g, s, vk, vc, rfl, s0, s1, sm⟩
      refine ⟨_, rfl, _, rfl, (by show 3 ≤ sizeLine; decide), fun p hp => ?_⟩
      exact k p _ (sm.free hp) (sm.trans (Same.new hp)) ⟨g, s, 0, upd_same, s0, s1, by decide, by decide⟩

/-! ### _law_draw -/
def spDraw : Sp := fun vs H Q _ => ∃ (a : Addr) (many : Int) (n : Nat), vs = [.ref a, .int many] ∧ 0 < many ∧ many.natAbs < 2 ^ 200 ∧ Src H a (n + 1) ∧ ∀ v H', 0 ≤ v → v < many → Kp a H H' → Src H' a n → Q (.int v) H'
theorem scDraw : FnScope ["_law_source_here", "_law_many", "_law_value", "_law_stirred"] ["_law_source_here", "_law_many"] (defScope sDraw) := ⟨rfl, rfl, rfl, by decide +kernel, rfl, by decide +kernel, by decide +kernel⟩
theorem ok_draw {f : Addr} {fd : FuncData} (F : Fun K "_law_draw" "_law_draw" sDraw f fd) (mI : mg "int" = none) : FnOk P w K mg base CX0 1 f fd ["_law_source_here", "_law_many"] spDraw := by
  refine F.ok scDraw (fun vs H Q E h => ?_) (fun cdv A outer s H vs Q E hr h => ?_)
  · obtain ⟨a, m, n, rfl, _⟩ := h
    rfl
  · obtain ⟨a, many, n, rfl, m0, mb, ⟨g, sd, c, ha, s0, s1, c0, c1⟩, k⟩ := h
    refine ⟨_, pss_cons (ps_if (pt_cmpR op_gt (pe_ix ix_list (pv 0) pe_int (fun _ _ => rfl)) pe_int (nomark _))
        (pss_cons (ps_set (i := 2) scDraw.nd rfl (.inl rfl) (pe_op op_mod (pe_callTy call_int1 (by rfl) mI (by decide +kernel) (pa_cons (pe_ix ix_list (pv 0) pe_int (fun _ _ => rfl)) pa_nil)) (pv 1)))
        (pss_cons (ps_asg (pe_op op_fdivW (pe_ix ix_list (pv 0) pe_int (fun _ _ => rfl)) (pv 1)) (pg_sub (pv 0) pe_int set_list))
        (pss_one (ps_ret (pv 2))))) pss_nil)
      (pss_cons (ps_asg (pe_op op_add (pe_ix ix_list (pv 0) pe_int (fun _ _ => rfl)) pe_int) (pg_sub (pv 0) pe_int set_list))
      (pss_cons (ps_set (i := 3) scDraw.nd rfl (.inl rfl) (pe_op op_mod (pe_callTy call_int1 (by rfl) mI (by decide +kernel) (pa_cons (pe_op op_pow (pe_op op_add (pe_ix ix_list (pv 0) pe_int (fun _ _ => rfl)) (pe_op op_mul pe_int (pe_ix ix_list (pv 0) pe_int (fun _ _ => rfl)))) pe_int) pa_nil)) pe_int))
      (pss_one (ps_ret (pe_op op_mod (pe_callTy call_int1 (by rfl) mI (by decide +kernel) (pa_cons (pe_op op_mod (pe_callTy call_int1 (by rfl) mI (by decide +kernel) (pa_cons (pe_op op_mul (pe_op op_add (pv 3) (pe_ix ix_list (pv 0) pe_int (fun _ _ => rfl))) pe_int) pa_nil)) pe_int) pa_nil)) (pv 1)))))), ?_⟩
    refine ⟨_, rfl, a, _, _, _, rfl, rfl, .of ha, rfl, _, _, rfl, rfl, _, rfl, ite2 (fun _ => ?_) fun _ => ?_⟩
    · refine ⟨_, rfl, a, _, _, _, rfl, rfl, .of ha, rfl, .inl ⟨_, rfl, _, rfl, _, _, rfl, rfl, m0, ?_⟩⟩
      refine ⟨_, rfl, a, _, _, _, rfl, rfl, .of ha, rfl, _, rfl, _, _, rfl, rfl, wide_div m0 mb (by decide) (by decide), _, rfl, a, _, _, 0, rfl, rfl, ha, rfl, _, rfl, ?_⟩
      exact k _ _ (Int.emod_nonneg _ (by omega)) (Int.emod_lt_of_pos _ m0) (Kp.refl.put) ⟨g / many, sd, c, upd_same, s0, s1, c0, by omega⟩
    · refine ⟨_, rfl, a, _, _, _, rfl, rfl, .of ha, rfl, _, _, rfl, rfl, _, rfl, a, _, _, 2, rfl, rfl, ha, rfl, ?_⟩
      have h2 : (upd H a (.lst [.int g, .int sd, .int (c + 1)])) a = some (.lst [.int g, .int sd, .int (c + 1)]) := upd_same
      refine ⟨_, rfl, a, _, _, _, rfl, rfl, .of h2, rfl, _, rfl, a, _, _, _, rfl, rfl, .of h2, rfl, _, _, rfl, rfl, .inl ⟨(by show -(2 ^ 64) < (7919 : Int); decide), (by show (7919 : Int) < 2 ^ 64; decide)⟩, _, _, rfl, rfl, _, _, rfl, rfl, ⟨by decide, by decide, ?_⟩, .inl ⟨_, rfl, _, _, rfl, rfl, (by show (0 : Int) < 2147483647; decide), ?_⟩⟩
      · show (sd + 7919 * (c + 1)).natAbs < 2 ^ 64
        omega
      · refine ⟨_, rfl, _, rfl, a, _, _, _, rfl, rfl, .of h2, rfl, _, _, rfl, rfl, _, _, rfl, rfl, .inr ⟨(by show -(2 ^ 64) < (40692 : Int); decide), (by show (40692 : Int) < 2 ^ 64; decide)⟩, .inl ⟨_, rfl, _, _, rfl, rfl, (by show (0 : Int) < 2147483629; decide), .inl ⟨_, rfl, _, rfl, _, _, rfl, rfl, m0, ?_⟩⟩⟩
        exact k _ _ (Int.emod_nonneg _ (by omega)) (Int.emod_lt_of_pos _ m0) (Kp.refl.put) ⟨g, sd, c + 1, h2, s0, s1, by omega, by omega⟩
end
end Mf
namespace Mf
open PySem L2
section
variable {P : Program} {w : World} {K : PySem.W.Frag} {mg : Str → Option Value} {base : Heap}
abbrev psD : List Str := ["_law_source_here", "_law_many"]

/-! ### _law_name -/
def spName (K : PySem.W.Frag) : Sp := fun vs H Q _ => ∃ (a t : Addr) (taken : List Str) (n : Nat), vs = [.ref a, .ref t] ∧ Src H a (n + 10) ∧ t ≠ a ∧ SqL K H t (taken.map V.str) ∧ taken.length ≤ 16 ∧
  ∀ z H', IsName z → z ∉ taken → Kp a H H' → Src H' a n → Q (.str z) H'
abbrev sName : Stmt := top 5
theorem scName : FnScope ["_law_source_here", "_law_taken", "_law_size", "_law_name_here", "_law_k", "_law_one", "_law_letter"] ["_law_source_here", "_law_taken"] (defScope sName) := ⟨rfl, rfl, rfl, by decide +kernel, rfl, by decide +kernel, by decide +kernel⟩
def zAt (c : Nat) : Str := ("z" : Str) ++ ⟨#[c]⟩
theorem zAt_name {c : Nat} (h : Low c) : IsName (zAt c) := by
  have e : (zAt c).cps.toList = [122, c] := str_add _ _
  refine ⟨?_, ?_, ?_⟩
  · rw [← Array.length_toList, e]; exact (by decide : 1 ≤ 2)
  · rw [← Array.length_toList, e]; exact (by decide : 2 ≤ 8)
  · rw [e]; intro d hd
    rcases List.mem_cons.mp hd with rfl | hd
    · unfold Low; omega
    · rw [List.mem_singleton.mp hd]; exact h
theorem zAt_inj {c d : Nat} (h : zAt c = zAt d) : c = d := by
  have e : (zAt c).cps.toList = (zAt d).cps.toList := by rw [h]
  have e1 : (zAt c).cps.toList = [122, c] := str_add _ _
  have e2 : (zAt d).cps.toList = [122, d] := str_add _ _
  rw [e1, e2] at e
  simpa using e
theorem sizes_at {v : Int} (h0 : 0 ≤ v) (h : v < 13) : ∃ m : Nat, atI [V.int 8, .int 4, .int 5, .int 6, .int 7, .int 1, .int 2, .int 3, .int 1, .int 2, .int 3, .int 1, .int 2] v = some (.int (m : Nat)) ∧ 1 ≤ m ∧ m ≤ 8 := by
  obtain ⟨n, rfl⟩ := Int.eq_ofNat_of_zero_le h0
  have e : ∀ n : Fin 13, atI [V.int 8, .int 4, .int 5, .int 6, .int 7, .int 1, .int 2, .int 3, .int 1, .int 2, .int 3, .int 1, .int 2] ((n.val : Nat) : Int) = some (.int (([8, 4, 5, 6, 7, 1, 2, 3, 1, 2, 3, 1, 2].getD n.val 0 : Nat))) ∧ 1 ≤ ([8, 4, 5, 6, 7, 1, 2, 3, 1, 2, 3, 1, 2].getD n.val 0) ∧ ([8, 4, 5, 6, 7, 1, 2, 3, 1, 2, 3, 1, 2].getD n.val 0) ≤ 8 := by decide +kernel
  exact ⟨_, e ⟨n, by omega⟩⟩
theorem cut_q {z : Str} (h : IsName z) (h8 : z.length < 8) : IsName (("q" : Str) ++ cutS z (some 1) none) := by
  have hz : z.cps.toList.length = z.length := Array.length_toList
  have e : (("q" : Str) ++ cutS z (some 1) none).cps.toList = 113 :: (z.cps.toList.drop (HT.sIx z.length 0 (some 1))).take (HT.sIx z.length z.length none - HT.sIx z.length 0 (some 1)) := str_add _ _
  have l : (z.cps.toList.drop (HT.sIx z.length 0 (some 1))).take (HT.sIx z.length z.length none - HT.sIx z.length 0 (some 1)) ⊆ z.cps.toList := fun c hc => List.mem_of_mem_drop (List.mem_of_mem_take hc)
  have b : ((z.cps.toList.drop (HT.sIx z.length 0 (some 1))).take (HT.sIx z.length z.length none - HT.sIx z.length 0 (some 1))).length ≤ 7 := by
    rw [List.length_take, List.length_drop, hz]; omega
  refine ⟨?_, ?_, ?_⟩
  · rw [← Array.length_toList, e, List.length_cons]; omega
  · rw [← Array.length_toList, e, List.length_cons]; omega
  · rw [e]; intro c hc
    rcases List.mem_cons.mp hc with rfl | hc
    · unfold Low; omega
    · exact h.2.2 c (l hc)
theorem kinds_names : ∀ z ∈ ([("read" : Str), "call", "say", "try"] : List Str), IsName z := by decide +kernel
theorem zs_fresh {taken : List Str} (h : taken.length ≤ 16) : (("abcdefghijklmnopq" : Str).cps.toList.map zAt).filter (fun z => !decide (z ∈ taken)) ≠ [] := by
  intro e
  have sub : (("abcdefghijklmnopq" : Str).cps.toList.map zAt) ⊆ taken := fun z hz => by
    refine Classical.byContradiction fun n => ?_
    have m : z ∈ (("abcdefghijklmnopq" : Str).cps.toList.map zAt).filter (fun z => !decide (z ∈ taken)) := List.mem_filter.mpr ⟨hz, by simp [n]⟩
    rw [e] at m
    cases m
  have nd : (("abcdefghijklmnopq" : Str).cps.toList.map zAt).Nodup := by
    refine List.Pairwise.map _ (fun a b (n : a ≠ b) q => n (zAt_inj q)) ?_
    show (("abcdefghijklmnopq" : Str).cps.toList).Nodup
    decide +kernel
  have l := nodup_le nd sub
  rw [List.length_map] at l
  have : ("abcdefghijklmnopq" : Str).cps.toList.length = 17 := by decide +kernel
  omega
theorem ok_name {f : Addr} {fd : FuncData} (F : Fun K "_law_name" "_law_name" sName f fd) (c_draw : Cal P w K mg base CX0 1 "_law_draw" psD spDraw) (mRange : mg "range" = none) : FnOk P w K mg base CX0 2 f fd ["_law_source_here", "_law_taken"] (spName K) := by
  refine F.ok scName (fun vs H Q E h => ?_) (fun cdv A outer s H vs Q E hr h => ?_)
  · obtain ⟨a, t, taken, n, rfl, _⟩ := h
    rfl
  · obtain ⟨a, t, taken, n, rfl, S, ta, ht, tl, k⟩ := h
    have hr_draw : Room 1 (A.deeper (PyProof.Rows.envOfC "_law_name" (defScope sName) s.heap.objs.size f cdv)) := hr
    refine ⟨_, (pss_cons (ps_set (i := 2) scName.nd rfl (by first | exact Or.inl rfl | exact Or.inr rfl) (pe_ix (ixl K) (pe_lst (pa_cons pe_int (pa_cons pe_int (pa_cons pe_int (pa_cons pe_int (pa_cons pe_int (pa_cons pe_int (pa_cons pe_int (pa_cons pe_int (pa_cons pe_int (pa_cons pe_int (pa_cons pe_int (pa_cons pe_int (pa_cons pe_int pa_nil)))))))))))))) (pe_cal c_draw hr_draw pass0 (pa_cons (pv 0) (pa_cons pe_int pa_nil))) (fun _ _ => rfl)))
      (pss_cons (ps_set (i := 3) scName.nd rfl (by first | exact Or.inl rfl | exact Or.inr rfl) (pe_join pe_str (pe_lc (own := [("_law_k", 4)]) (g := (gName 4)) (tt := tYes) rfl scName.nd (pi_range1 (by rfl) mRange (pa_cons (pv 2) pa_nil)) (blkOk_by (own := [("_law_k", 4)]) (N := ["_law_source_here", "_law_taken", "_law_size", "_law_name_here", "_law_k", "_law_one", "_law_letter"]) (sc := defScope sName) (by decide +kernel)) (fun _ _ _ _ _ => (pg_name (i := 4) scName.nd rfl (by first | exact Or.inl rfl | exact Or.inr rfl))) (fun _ _ _ _ _ => pts_nil) (fun _ _ _ _ _ => (pe_ix ix_str pe_str (pe_cal c_draw hr_draw pass0 (pa_cons (pv 0) (pa_cons pe_int pa_nil))) (fun _ _ => rfl))))))
      (C8.pss_cut (ps_if (pt_chain op_lt op_lt pe_int (pv 2) pe_int)
        (pss_one (ps_set (i := 3) scName.nd rfl (by first | exact Or.inl rfl | exact Or.inr rfl) (pe_ix (ixl K) (pe_lst (pa_cons pe_str (pa_cons pe_str (pa_cons pe_str (pa_cons pe_str (pa_cons (pe_op op_add_str pe_str (pe_slice sl_str (pv 3) (po_some pe_int) po_none)) pa_nil)))))) (pe_cal c_draw hr_draw pass0 (pa_cons (pv 0) (pa_cons pe_int pa_nil))) (fun _ _ => rfl)))) pss_nil)
      (pss_cons (ps_if (pt_cmpR (nin K) (pv 3) (pv 1) (by rfl))
        (pss_one (ps_ret (pv 3))) pss_nil)
      (pss_one (ps_ret (pe_ix (ixl K) (pe_lc (own := [("_law_one", 5)]) (g := (gName 5)) rfl scName.nd (pi_list (pe_lc (own := [("_law_letter", 6)]) (g := (gName 6)) (tt := tYes) rfl scName.nd (pi_str pe_str) (blkOk_by (own := [("_law_letter", 6)]) (N := ["_law_source_here", "_law_taken", "_law_size", "_law_name_here", "_law_k", "_law_one", "_law_letter"]) (sc := defScope sName) (by decide +kernel)) (fun _ _ _ _ _ => (pg_name (i := 6) scName.nd rfl (by first | exact Or.inl rfl | exact Or.inr rfl))) (fun _ _ _ _ _ => pts_nil) (fun _ _ _ _ _ => (pe_op op_add_str pe_str (pv 6))))) (blkOk_by (own := [("_law_one", 5)]) (N := ["_law_source_here", "_law_taken", "_law_size", "_law_name_here", "_law_k", "_law_one", "_law_letter"]) (sc := defScope sName) (by decide +kernel)) (fun _ _ _ _ _ => (pg_name (i := 5) scName.nd rfl (by first | exact Or.inl rfl | exact Or.inr rfl))) (fun _ _ _ _ _ => pts_one (pt_cmpR (nin K) (pv 5) (pv 1) (by rfl))) (fun _ _ _ _ _ => (pv 5))) pe_int (fun _ _ => rfl)))))))), ?_⟩
    refine ⟨(by show 13 ≤ sizeLine; decide), fun l hl => ⟨_, rfl, a, 13, n + 9, rfl, by decide, by decide, S.new hl, fun v H1 v0 v1 k1 S1 => ?_⟩⟩
    obtain ⟨m, hm, m1, m8⟩ := sizes_at v0 v1
    refine ⟨l, _, v, _, rfl, rfl, .of (k1 _ _ (S.ne hl) upd_same), hm, ?_⟩
    have k1 : Kp a H H1 := (Kp.new hl).trans k1
    refine ⟨⟨_, rfl⟩, _, rfl, m, rfl, by omega, by omega, fun D hD => ?_⟩
    refine lc_range (lo := 0) (n := m) (fun i H' => ∃ cs : List Nat, cs.length = i ∧ (∀ c ∈ cs, Low c) ∧ H' D = some (.lst (cs.map fun c => V.str ⟨#[c]⟩)) ∧ Kp a H1 H' ∧ Src H' a (n + 9 - i) ∧ D ≠ a) ⟨[], rfl, (by simp), upd_same, Kp.new hD, S1.new hD, S1.ne hD⟩ ?_ ?_
    · rintro i H2 hi ⟨cs, hc, low, h2, k2, S2, Da⟩
      refine ⟨rfl, yes_then ?_⟩
      refine ⟨_, rfl, a, 26, n + 8 - i, rfl, by decide, by decide, S2.mono (by omega), fun v H3 v0 v1 k3 S3 => ?_⟩
      obtain ⟨c, hcc, lc⟩ := alpha_at v0 v1
      refine ⟨_, v, c, rfl, rfl, (by show 26 ≤ sizeLine; decide), hcc, _, k3 _ _ Da h2, (by rw [List.length_map, hc]; exact Nat.lt_of_lt_of_le (by omega : i < 9) (by decide)), cs ++ [c], by rw [List.length_append, hc]; rfl, fun d hd => ?_, ?_, ?_, ?_, Da⟩
      · rcases List.mem_append.mp hd with hd | hd
        · exact low d hd
        · rw [List.mem_singleton.mp hd]; exact lc
      · rw [upd_same, List.map_append]; rfl
      · exact (k2.trans k3).mut (H := H1) hD
      · exact (S3.put Da).mono (by omega)
    · rintro H2 ⟨cs, hc, low, h2, k2, S2, Da⟩
      have e1 : (cs.map fun c => V.str ⟨#[c]⟩) = ((cs.map fun c => (⟨#[c]⟩ : Str)).map V.str) := by rw [List.map_map]; rfl
      rw [e1] at h2
      have one : ∀ y ∈ cs.map (fun c => (⟨#[c]⟩ : Str)), y.length ≤ 1 := fun y hy => by
        obtain ⟨c, _, rfl⟩ := List.mem_map.mp hy
        exact Nat.le_refl 1
      refine ⟨_, D, _, rfl, rfl, .inl (.of h2), ?_, ?_⟩
      · have q := sum_len one
        rw [List.length_map] at q ⊢
        show _ + cs.length * 0 ≤ _
        omega
      rw [join_signs]
      have nm : IsName (⟨cs.toArray⟩ : Str) := ⟨by show 1 ≤ cs.toArray.size; simp; omega, by show cs.toArray.size ≤ 8; simp; omega, fun c hc => low c (by simpa using hc)⟩
      have sz : (⟨cs.toArray⟩ : Str).cps.size = m := by show cs.toArray.size = m; simp; omega
      generalize (⟨cs.toArray⟩ : Str) = z at nm sz
      have k2 : Kp a H H2 := k1.trans k2
      refine ⟨fun σ' H' => ∃ z, σ' = [some (.ref a), some (.ref t), some (.int (m : Nat)), some (.str z), none, none, none] ∧ IsName z ∧ Kp a H H' ∧ Src H' a n, ?_, ?_⟩
      · refine ⟨_, rfl, _, _, rfl, rfl, _, rfl, ite2 (fun h3 => ?_) fun _ => ?_⟩
        · refine ⟨_, _, rfl, rfl, _, rfl, ite2 (fun h8 => ?_) fun _ => ?_⟩
          · have m7 : (m : Int) < 8 := of_decide_eq_true h8
            refine ⟨_, rfl, _, rfl, z, rfl, Nat.le_trans nm.len (by decide), _, _, rfl, rfl, ?_, ?_⟩
            · have q := cutS_length z (some 1) none
              have q2 := nm.len
              show 1 + _ ≤ _
              exact Nat.le_trans (by omega : _ ≤ 9) (by decide)
            refine ⟨(by show 5 ≤ sizeLine; decide), fun l2 hl2 => ⟨_, rfl, a, 5, n, rfl, by decide, by decide, (S2.mono (by omega : n + 1 ≤ n + 9 - m)).new hl2, fun v H3 v0 v1 k3 S3 => ?_⟩⟩
            obtain ⟨x, hx, hat⟩ := atI_mem (xs := [V.str "read", .str "call", .str "say", .str "try", .str (("q" : Str) ++ cutS z (some 1) none)]) v0 v1
            have hx' : ∃ y, x = .str y ∧ IsName y := by
              have kk := kinds_names
              simp only [List.mem_cons, List.not_mem_nil, or_false] at hx kk
              rcases hx with rfl | rfl | rfl | rfl | rfl
              · exact ⟨_, rfl, kk _ (by simp)⟩
              · exact ⟨_, rfl, kk _ (by simp)⟩
              · exact ⟨_, rfl, kk _ (by simp)⟩
              · exact ⟨_, rfl, kk _ (by simp)⟩
              · exact ⟨_, rfl, cut_q nm (by have : z.length = z.cps.size := rfl; omega)⟩
            obtain ⟨y, rfl, ny⟩ := hx'
            exact ⟨l2, _, v, _, rfl, rfl, .of (k3 _ _ (S2.ne hl2) upd_same), hat, y, rfl, ny, (k2.trans (Kp.new hl2)).trans k3, S3⟩
          · exact ⟨z, rfl, nm, k2, S2.mono (by omega)⟩
        · exact ⟨_, rfl, iteF ⟨z, rfl, nm, k2, S2.mono (by omega)⟩⟩
      · rintro σ' H3 ⟨z, rfl, nm, k3, S3⟩
        have ht3 := k3.lst ta ht
        have fl : (taken.map V.str).all flatV = true := by rw [List.all_map]; exact List.all_eq_true.mpr fun _ _ => rfl
        refine ⟨_, rfl, _, rfl, t, _, rfl, .inl ht3, rfl, fl, _, rfl, ?_⟩
        show if (!inV (.str z) (taken.map V.str)) = true then _ else _
        rw [inV_str]
        by_cases hz : z ∈ taken
        · rw [decide_eq_true hz]
          refine iteF ?_
          refine ⟨_, rfl, fun E1 hE1 => ?_⟩
          refine lc_it walk_str (fun i H' => H' E1 = some (.lst ((("abcdefghijklmnopq" : Str).cps.toList.take i).map fun c => V.str (zAt c))) ∧ Kp a H3 H' ∧ Src H' a n) ⟨upd_same, Kp.new hE1, S3.new hE1⟩ (fun _ _ _ _ => trivial) ?_ ?_
          · rintro i x H4 _ hi ⟨h4, k4, S4⟩ ⟨rfl, c, hc, rfl⟩
            refine ⟨rfl, yes_then ?_⟩
            refine ⟨_, rfl, _, _, rfl, rfl, (by show 1 + 1 ≤ sizeLine; decide), _, h4, ?_, ?_, ?_, ?_⟩
            · rw [List.length_map]
              exact Nat.lt_of_le_of_lt (List.length_take_le _ _) (Nat.lt_of_lt_of_le (show i < 17 from hi) (by decide))
            · rw [upd_same, List.take_add_one, List.map_append]
              have e : ("abcdefghijklmnopq" : Str).cps.toList[i]? = some c := by rw [Array.getElem?_toList]; exact hc
              rw [e]; rfl
            · exact k4.mut hE1
            · exact S4.put (S3.ne hE1)
          · rintro H4 ⟨h4, k4, S4⟩
            have e17 : (("abcdefghijklmnopq" : Str).cps.toList.take ("abcdefghijklmnopq" : Str).cps.size).map (fun c => V.str (zAt c)) = (("abcdefghijklmnopq" : Str).cps.toList.map zAt).map V.str := by
              rw [List.take_of_length_le (by rw [Array.length_toList]; exact Nat.le_refl _), List.map_map]; rfl
            rw [e17] at h4
            have low : ∀ z ∈ ("abcdefghijklmnopq" : Str).cps.toList.map zAt, IsName z := fun z hz => by
              obtain ⟨c, hc, rfl⟩ := List.mem_map.mp hz
              refine zAt_name ?_
              have all : ∀ c ∈ ("abcdefghijklmnopq" : Str).cps.toList, 97 ≤ c ∧ c ≤ 122 := by decide +kernel
              exact all c hc
            have fresh := zs_fresh tl
            have len17 : (("abcdefghijklmnopq" : Str).cps.toList.map zAt).length = 17 := by decide +kernel
            generalize ("abcdefghijklmnopq" : Str).cps.toList.map zAt = zs at h4 low fresh len17
            refine ⟨E1, rfl, ⟨_, .of h4⟩, fun E2 hE2 => ?_⟩
            have n21 : E1 ≠ E2 := Ne.symm (ne_none hE2 h4)
            refine lc_it walk_list (fun i H' => H' E2 = some (.lst (((zs.take i).filter fun z => !decide (z ∈ taken)).map V.str)) ∧ Kp a H4 H' ∧ Src H' a n) ⟨upd_same, Kp.new hE2, S4.new hE2⟩ (fun i H' _ q => .of (q.2.1 _ _ (by exact ne_none hE1 (show H3 a = some _ from S3.choose_spec.choose_spec.choose_spec.1)) h4)) ?_ ?_
            · rintro i x H5 _ hi ⟨h5, k5, S5⟩ ⟨rfl, hx⟩
              rw [List.getElem?_map] at hx
              obtain ⟨y, hy, rfl⟩ := Option.map_eq_some_iff.mp hx
              have ht5 := (k4.trans k5).lst ta ht3
              have tk : zs.take (i + 1) = zs.take i ++ [y] := by rw [List.take_add_one, hy]; rfl
              refine ⟨rfl, _, rfl, _, rfl, t, _, rfl, .inl ht5, rfl, fl, _, rfl, ?_⟩
              show if (!inV (.str y) (taken.map V.str)) = true then _ else _
              rw [inV_str]
              by_cases hz : y ∈ taken
              · rw [decide_eq_true hz]
                refine iteF ⟨?_, k5, S5⟩
                rw [tk, List.filter_append, List.filter_cons_of_neg (by simp [hz]), List.filter_nil, List.append_nil]
                exact h5
              · rw [decide_eq_false hz]
                refine iteT ⟨_, rfl, _, h5, ?_, ?_, k5.mut hE2, S5.put (S4.ne hE2)⟩
                · rw [List.length_map]
                  refine Nat.lt_of_le_of_lt (Nat.le_trans (List.length_filter_le _ _) (List.length_take_le _ _)) (Nat.lt_of_lt_of_le (show i < 17 by rw [List.length_map, len17] at hi; exact hi) (by decide))
                · rw [upd_same, tk, List.filter_append, List.filter_cons_of_pos (by simp [hz]), List.filter_nil, List.map_append]
                  rfl
            · rintro H5 ⟨h5, k5, S5⟩
              rw [List.length_map, List.take_length] at h5
              have nice : ∀ z ∈ zs.filter (fun z => !decide (z ∈ taken)), IsName z ∧ z ∉ taken := fun z hz => by
                obtain ⟨m1, m2⟩ := List.mem_filter.mp hz
                exact ⟨low z m1, by simpa using m2⟩
              generalize zs.filter (fun z => !decide (z ∈ taken)) = fs at fresh nice h5
              rcases fs with _ | ⟨y, ys⟩
              · exact absurd rfl fresh
              · obtain ⟨n1, n2⟩ := nice y List.mem_cons_self
                exact ⟨E2, _, 0, .str y, rfl, rfl, .of h5, atI_nat (j := 0) rfl, k y H5 n1 n2 ((k3.trans k4).trans k5) S5⟩
        · rw [decide_eq_false hz]
          exact iteT ⟨_, rfl, k z H3 nm hz k3 S3⟩
end
end Mf
namespace Mf
open PySem L2
/-! ### the class NameSet -/
def flM (t : Addr) : List (Str × V) := putF "members" (.ref t) []
theorem flM_get (t : Addr) : (flM t).lookup ("members" : Str) = some (.ref t) := by
  unfold flM
  rw [lookup_putF, if_pos rfl]
/-- a NameSet stands at p, its members ms -/
def NSet (C : Addr) (H : Hp) (p : Addr) (ms : List Str) : Prop := ∃ dx t, H p = some (.ins C dx (flM t)) ∧ H t = some (.tup (ms.map V.str)) ∧ Up ms ∧ ms.length < 4000 ∧ ∀ z ∈ ms, PyData.strOk z = true
theorem NSet.same {C : Addr} {H H' : Hp} {p : Addr} {ms : List Str} (h : NSet C H p ms) (s : Same H H') : NSet C H' p ms := let ⟨dx, t, a, b, c⟩ := h; ⟨dx, t, s _ _ a, s _ _ b, c⟩
theorem NSet.kp {C a : Addr} {H H' : Hp} {p : Addr} {ms : List Str} {n : Nat} (h : NSet C H p ms) (s : Kp a H H') (S : Src H a n) : NSet C H' p ms :=
  let ⟨dx, t, x, y, c⟩ := h
  let ⟨_, _, _, e, _⟩ := S
  ⟨dx, t, s _ _ (ne_of x e (by intro z; cases z)) x, s _ _ (ne_of y e (by intro z; cases z)) y, c⟩
structure NsC (K : PySem.W.Frag) (mg : Str → Option Value) (C : Addr) : Prop where
  ins : C8.InsC K C
  nM : NoAttr K C "members"
  mgC : mg "NameSet" = some (.ref C)
  kL : PySem.W.kitOne K (.type "list") (.ref C) = some false
  kT : PySem.W.kitOne K (.type "tuple") (.ref C) = some false
  bT : PySem.W.notFirst K C (.type "tuple") = true
  bL : PySem.W.notFirst K C (.type "list") = true
  mIsi : mg "isinstance" = none
  mTuple : mg "tuple" = none
  mSorted : mg "sorted" = none
  mSet : mg "set" = none
  mAll : mg "all" = none
  mLen : mg "len" = none
/-- what NameSet(..) takes -/
inductive ArgS (K : PySem.W.Frag) (C : Addr) (H : Hp) : V → List Str → Prop
  | lst {a : Addr} {xs : List Str} (e : H a = some (.lst (xs.map V.str))) : ArgS K C H (.ref a) xs
  | tup {a : Addr} {xs : List Str} (e : H a = some (.tup (xs.map V.str))) : ArgS K C H (.ref a) xs
  | emp {a : Addr} {o : Obj} (e : K.lookup a = some o) (c : o.cls = .type "tuple") (s : ∀ H, SqT K H a []) : ArgS K C H (.ref a) []
  | own {a : Addr} {xs : List Str} (e : NSet C H a xs) : ArgS K C H (.ref a) xs
section
variable {P : Program} {w : World} {K : PySem.W.Frag} {mg : Str → Option Value} {base : Heap} {C : Addr}
theorem NsC.isi {H : Hp} {p : Addr} {dx : Addr} {fs : List (Str × V)} (T : NsC K mg C) (h : H p = some (.ins C dx fs)) : TyX K H (.ref p) (.ref C) := .base (.ins h T.ins.cl T.ins.ha T.ins.hn T.ins.htk T.ins.hm)

def spNsInit (K : PySem.W.Frag) (C : Addr) : Sp := fun vs H Q _ => ∃ (p dx : Addr) (x : V) (xs : List Str), vs = [.ref p, x] ∧ H p = some (.ins C dx []) ∧ ArgS K C H x xs ∧ xs.length < 4000 ∧
  ∀ t ms H', Up ms → (∀ z, z ∈ ms ↔ z ∈ xs) → H' p = some (.ins C dx (flM t)) → H' t = some (.tup (ms.map V.str)) → (∀ b o, b ≠ p → H b = some o → H' b = some o) → Q .non H'
abbrev sNameSetInit : Stmt := inClass (top 1) 0
theorem scNameSetInit : FnScope ["self", "names"] ["self", "names"] (defScope sNameSetInit) := ⟨rfl, rfl, rfl, by decide +kernel, rfl, by decide +kernel, by decide +kernel⟩
theorem ok_nsInit {f : Addr} {fd : FuncData} {dvs : List V} {kws : List (Str × V)} {ar : Arguments} (F : FunD K "__init__" "NameSet.__init__" ar (defBody sNameSetInit) (defScope sNameSetInit) dvs kws f fd) (T : NsC K mg C) : FnOk P w K mg base CX0 1 f fd ["self", "names"] (spNsInit K C) := by
  refine F.ok scNameSetInit (fun vs H Q E h => ?_) (fun cdv A outer s H vs Q E hr h => ?_)
  · obtain ⟨p, dx, x, xs, rfl, _⟩ := h
    rfl
  · obtain ⟨p, dx, x, xs, rfl, hp, ax, few, k⟩ := h
    have mIsi := T.mIsi; have mg_NameSet := T.mgC; have mTuple := T.mTuple; have mSorted := T.mSorted; have mSet := T.mSet
    refine ⟨_, (C8.pss_cut (ps_if (pt_val (pe_callB (k_isi K) (by rfl) mIsi (by decide +kernel) (pa_cons (pv 1) (pa_cons (pe_glob (v := .ref _) rfl mg_NameSet rfl) pa_nil))))
        (pss_one (ps_set (i := 1) scNameSetInit.nd rfl (by first | exact Or.inl rfl | exact Or.inr rfl) (fldK K (pv 1)))) pss_nil)
      (pss_one (ps_fld (pv 0) (pe_callTy (k_tuple K) (by rfl) mTuple (by decide +kernel) (pa_cons (pe_callB (cr_sortedX rfl) (by rfl) mSorted (by decide +kernel) (pa_cons (pe_callTy (cr_setS rfl) (by rfl) mSet (by decide +kernel) (pa_cons (pv 1) pa_nil)) pa_nil)) pa_nil)) rfl))), ?_⟩
    refine ⟨fun σ' H' => H' = H ∧ ∃ c, σ' = [some (.ref p), some (.ref c)] ∧ (SqL K H c (xs.map V.str) ∨ SqT K H c (xs.map V.str)), ?_, ?_⟩
    · cases ax with
      | lst e => exact ⟨_, rfl, _, _, _, _, false, rfl, .own C, .base (.lst e), T.kL, _, rfl, iteF ⟨rfl, _, rfl, .inl (.of e)⟩⟩
      | tup e => exact ⟨_, rfl, _, _, _, _, false, rfl, .own C, .base (.tup e), T.kT, _, rfl, iteF ⟨rfl, _, rfl, .inr (.of e)⟩⟩
      | emp e c s => exact ⟨_, rfl, _, _, _, _, false, rfl, .own C, .kTuple e c, T.kT, _, rfl, iteF ⟨rfl, _, rfl, .inr (s H)⟩⟩
      | own e =>
        obtain ⟨dy, t, h1, h2, _⟩ := e
        exact ⟨_, rfl, _, _, _, _, true, rfl, .own C, T.isi h1, T.ins.me, _, rfl, iteT ⟨_, rfl, _, C, dy, _, _, rfl, h1, T.ins.cl, T.nM, flM_get t, rfl, t, rfl, .inr (.of h2)⟩⟩
    · rintro σ' H' ⟨rfl, c, rfl, hc⟩
      refine ⟨_, rfl, c, xs, rfl, hc, few, fun q l nq nd m => ?_⟩
      refine ⟨q, l, rfl, upd_same, fun ys r so m2 len nr => ?_⟩
      refine ⟨r, _, rfl, .inl ⟨.of upd_same, fun t nt => ?_⟩⟩
      have up : Up ys := up_of so (nodup_len nd (fun z hz => (m2 z).mpr hz) len)
      have h1 : Same H' (upd (upd (upd H' q (.ext fun h => TxR P w h q l)) r (.lst (ys.map V.str))) t (.tup (ys.map V.str))) := ((Same.new nq).trans (Same.new nr)).trans (Same.new nt)
      have ht : t ≠ p := ne_none nt ((Same.new nr) _ _ ((Same.new nq) _ _ hp))
      refine ⟨_, rfl, p, C, dx, [], rfl, h1 _ _ hp, T.ins.cl, T.nM, (by show 0 < 1000; decide), ?_⟩
      refine k t ys _ up (fun z => (m2 z).trans (m z)) upd_same (by rw [upd_ne ht, upd_same]) fun b o nb e => ?_
      rw [upd_ne nb]
      exact h1 _ _ e
theorem ArgS.same {H H' : Hp} {x : V} {xs : List Str} (h : ArgS K C H x xs) (s : Same H H') : ArgS K C H' x xs := by
  cases h with
  | lst e => exact .lst (s _ _ e)
  | tup e => exact .tup (s _ _ e)
  | emp e c q => exact .emp e c q
  | own e => exact .own (e.same s)
/-- NameSet(x): a new one -/
theorem make_ns {H : Hp} {x : V} {xs : List Str} {Q : VK} {E : XK} (ax : ArgS K C H x xs) (few : xs.length < 4000) (ok : ∀ z ∈ xs, PyData.strOk z = true)
    (k : ∀ p ms H', NSet C H' p ms → (∀ z, z ∈ ms ↔ z ∈ xs) → H p = none → Same H H' → Q (.ref p) H') :
    ∀ p dx, H p = none → H dx = none → dx ≠ p → spNsInit K C [.ref p, x] (upd (upd H dx (.own p)) p (.ins C dx [])) (fun v H2 => v = .non ∧ Q (.ref p) H2) E := by
  intro p dx hp hd ne
  have s1 : Same H (upd (upd H dx (.own p)) p (.ins C dx [])) := Same.mut (Same.new hd) hp
  refine ⟨p, dx, x, xs, rfl, upd_same, ax.same s1, few, fun t ms H' up m h1 h2 kp => ⟨rfl, k p ms H' ⟨dx, t, h1, h2, up, ?_, fun z hz => ok z ((m z).mp hz)⟩ m hp fun b o e => kp b o (ne_of_none e hp) (s1 _ _ e)⟩⟩
  exact Nat.lt_of_le_of_lt (nodup_le up.nd fun z hz => (m z).mp hz) few
theorem ns_grow {H : Hp} {p dx : Addr} (hp : H p = none) (hd : H dx = none) : Same H (upd (upd H dx (.own p)) p (.ins C dx [])) := Same.mut (Same.new hd) hp
theorem ns_after {H H' : Hp} {p dx t : Addr} {xs ms : List Str} (few : xs.length < 4000) (ok : ∀ z ∈ xs, PyData.strOk z = true) (hp : H p = none) (hd : H dx = none) (up : Up ms) (m : ∀ z, z ∈ ms ↔ z ∈ xs)
    (h1 : H' p = some (.ins C dx (flM t))) (h2 : H' t = some (.tup (ms.map V.str))) (kp : ∀ b o, b ≠ p → (upd (upd H dx (.own p)) p (.ins C dx [])) b = some o → H' b = some o) : NSet C H' p ms ∧ Same H H' :=
  ⟨⟨dx, t, h1, h2, up, Nat.lt_of_le_of_lt (nodup_le up.nd fun z hz => (m z).mp hz) few, fun z hz => ok z ((m z).mp hz)⟩, fun b o e => kp b o (ne_of_none e hp) ((ns_grow hp hd) b o e)⟩
end
end Mf
namespace Mf
open PySem L2
section
variable {P : Program} {w : World} {K : PySem.W.Frag} {mg : Str → Option Value} {base : Heap} {C : Addr}
abbrev psSO : List Str := ["self", "other"]
/-- what stands on the right of an == -/
def Oth (K : PySem.W.Frag) (C : Addr) (H : Hp) (y : V) (ms : List Str) (b : Bool) : Prop := (∃ q ns, y = .ref q ∧ NSet C H q ns ∧ b = decide (ms = ns)) ∨ ∃ t, TyX K H y t ∧ PySem.W.kitOne K t (.ref C) = some false ∧ b = false
def spNsEq (K : PySem.W.Frag) (C : Addr) : Sp := fun vs H Q _ => ∃ (p : Addr) (ms : List Str) (y : V) (b : Bool), vs = [.ref p, y] ∧ NSet C H p ms ∧ Oth K C H y ms b ∧ Q (.bl b) H
abbrev sNameSetEq : Stmt := inClass (top 1) 1
theorem scNameSetEq : FnScope ["self", "other"] ["self", "other"] (defScope sNameSetEq) := ⟨rfl, rfl, rfl, by decide +kernel, rfl, by decide +kernel, by decide +kernel⟩
theorem ok_nsEq {f : Addr} {fd : FuncData} (F : Fun K "__eq__" "NameSet.__eq__" sNameSetEq f fd) (T : NsC K mg C) : FnOk P w K mg base CX0 1 f fd psSO (spNsEq K C) := by
  refine F.ok scNameSetEq (fun vs H Q E h => ?_) (fun cdv A outer s H vs Q E hr h => ?_)
  · obtain ⟨p, ms, y, b, rfl, _⟩ := h
    rfl
  · obtain ⟨p, ms, y, b, rfl, hN, ho, k⟩ := h
    have mIsi := T.mIsi; have mg_NameSet := T.mgC
    refine ⟨_, (pss_one (ps_ret (pe_and (pe_callB (k_isi K) (by rfl) mIsi (by decide +kernel) (pa_cons (pv 1) (pa_cons (pe_glob (v := .ref _) rfl mg_NameSet rfl) pa_nil))) (pe_one (pe_cmpR (eqD K hr) (fldK K (pv 0)) (fldK K (pv 1)) (nomark _)))))), ?_⟩
    obtain ⟨dx, t, h1, h2, up, few, ok⟩ := hN
    rcases ho with ⟨q, ns, rfl, ⟨dy, u, g1, g2, up2, few2, ok2⟩, rfl⟩ | ⟨ty, hy, e, rfl⟩
    · refine ⟨_, rfl, _, _, _, _, true, rfl, .own C, T.isi g1, T.ins.me, _, rfl, iteT ⟨_, rfl, p, C, dx, _, _, rfl, h1, T.ins.cl, T.nM, flM_get t, _, rfl, q, C, dy, _, _, rfl, g1, T.ins.cl, T.nM, flM_get u, ?_⟩⟩
      refine ⟨_, _, .tup (.of h2) (dpS ms), .tup (.of g2) (dpS ns), shT ok, shT ok2, ?_⟩
      show Q (.bl (PyData.eqvAll _ _)) H
      rw [eqvS]
      exact k
    · exact ⟨_, rfl, _, _, _, _, false, rfl, .own C, hy, e, _, rfl, iteF k⟩

def spNsLe (C : Addr) : Sp := fun vs H Q _ => ∃ (p q : Addr) (ms ns : List Str), vs = [.ref p, .ref q] ∧ NSet C H p ms ∧ NSet C H q ns ∧ ∀ H', Same H H' → Q (.bl (ms.all fun z => decide (z ∈ ns))) H'
abbrev sNameSetLe : Stmt := inClass (top 1) 2
theorem scNameSetLe : FnScope ["self", "other", "name"] ["self", "other"] (defScope sNameSetLe) := ⟨rfl, rfl, rfl, by decide +kernel, rfl, by decide +kernel, by decide +kernel⟩
theorem ok_nsLe {f : Addr} {fd : FuncData} (F : Fun K "__le__" "NameSet.__le__" sNameSetLe f fd) (T : NsC K mg C) : FnOk P w K mg base CX0 1 f fd psSO (spNsLe C) := by
  refine F.ok scNameSetLe (fun vs H Q E h => ?_) (fun cdv A outer s H vs Q E hr h => ?_)
  · obtain ⟨p, q, ms, ns, rfl, _⟩ := h
    rfl
  · obtain ⟨p, q, ms, ns, rfl, ⟨dx, t, h1, h2, up, few, ok⟩, ⟨dy, u, g1, g2, up2, few2, ok2⟩, k⟩ := h
    have mAll := T.mAll
    refine ⟨_, (pss_one (ps_ret (pe_callB (k_all K) (by rfl) mAll (by decide +kernel) (pa_cons (pe_lc (own := [("name", 2)]) (g := (gName 2)) (tt := tYes) rfl scNameSetLe.nd (pi_tup (fldK K (pv 0))) (blkOk_by (own := [("name", 2)]) (N := ["self", "other", "name"]) (sc := defScope sNameSetLe) (by decide +kernel)) (fun _ _ _ _ _ => (pg_name (i := 2) scNameSetLe.nd rfl (by first | exact Or.inl rfl | exact Or.inr rfl))) (fun _ _ _ _ _ => pts_nil) (fun _ _ _ _ _ => (pe_cmpR (oin K) (pv 2) (fldK K (pv 1)) (by rfl)))) pa_nil)))), ?_⟩
    refine ⟨_, rfl, p, C, dx, _, _, rfl, h1, T.ins.cl, T.nM, flM_get t, t, rfl, ⟨_, .of h2⟩, fun D hD => ?_⟩
    refine lc_it walk_tup (fun i H' => Same H H' ∧ H' D = some (.lst ((ms.take i).map fun z => V.bl (decide (z ∈ ns))))) ⟨Same.new hD, upd_same⟩ (fun i H' _ q => q.1.tup (.of h2)) ?_ ?_
    · rintro i x H1 _ hi ⟨s1, h3⟩ ⟨rfl, hx⟩
      rw [List.getElem?_map] at hx
      obtain ⟨z, hz, rfl⟩ := Option.map_eq_some_iff.mp hx
      rw [List.length_map] at hi
      refine ⟨rfl, yes_then ?_⟩
      refine ⟨_, rfl, _, rfl, q, C, dy, _, _, rfl, s1 _ _ g1, T.ins.cl, T.nM, flM_get u, u, _, rfl, .inr (.of (s1 _ _ g2)), rfl, flat_strs ns, _, h3, ?_, s1.mut hD, ?_⟩
      · rw [List.length_map]
        exact Nat.lt_of_le_of_lt (List.length_take_le _ _) (Nat.lt_of_lt_of_le (by omega : i < 4000) (by decide))
      · rw [upd_same, List.take_add_one, hz]
        show some (HO.lst (_ ++ [V.bl (inV (.str z) (ns.map V.str))])) = _
        rw [inV_str, List.map_append]
        rfl
    · rintro H1 ⟨s1, h3⟩
      have e : ((ms.take (ms.map V.str).length).map fun z => V.bl (decide (z ∈ ns))) = (ms.map fun z => decide (z ∈ ns)).map V.bl := by rw [List.length_map, List.take_length, List.map_map]; rfl
      rw [e] at h3
      refine ⟨D, _, rfl, .of h3, ?_⟩
      rw [List.all_map]
      exact k H1 s1
end
end Mf
namespace Mf
open PySem L2
section
variable {P : Program} {w : World} {K : PySem.W.Frag} {mg : Str → Option Value} {base : Heap} {C : Addr}
def spNsLt (C : Addr) : Sp := fun vs H Q _ => ∃ (p q : Addr) (ms ns : List Str), vs = [.ref p, .ref q] ∧ NSet C H p ms ∧ NSet C H q ns ∧ ∀ H', Same H H' → Q (.bl ((ms.all fun z => decide (z ∈ ns)) && !decide (ms = ns))) H'
abbrev sNameSetLt : Stmt := inClass (top 1) 3
theorem scNameSetLt : FnScope ["self", "other"] ["self", "other"] (defScope sNameSetLt) := ⟨rfl, rfl, rfl, by decide +kernel, rfl, by decide +kernel, by decide +kernel⟩
theorem ok_nsLt {f : Addr} {fd : FuncData} (F : Fun K "__lt__" "NameSet.__lt__" sNameSetLt f fd) (T : NsC K mg C) (m_le : CalM P w K mg base CX0 1 C "__le__" psSO (spNsLe C)) : FnOk P w K mg base CX0 2 f fd psSO (spNsLt C) := by
  refine F.ok scNameSetLt (fun vs H Q E h => ?_) (fun cdv A outer s H vs Q E hr h => ?_)
  · obtain ⟨p, q, ms, ns, rfl, _⟩ := h
    rfl
  · obtain ⟨p, q, ms, ns, rfl, hN, hN2, k⟩ := h
    refine ⟨_, (pss_one (ps_ret (pe_and (pe_cmpR (om_cmp (op := .LtE) K m_le hr pass0) (pv 0) (pv 1) (nomark _)) (pe_one (pe_cmpR (neD K hr) (fldK K (pv 0)) (fldK K (pv 1)) (nomark _)))))), ?_⟩
    have hNs := hN; have hNs2 := hN2
    obtain ⟨dx, t, h1, h2, up, few, ok⟩ := hN
    obtain ⟨dy, u, g1, g2, up2, few2, ok2⟩ := hN2
    refine ⟨_, rfl, _, rfl, p, dx, _, rfl, h1, ⟨.ref C, T.isi g1, by simp [PySem.W.notFirst]⟩, p, q, ms, ns, rfl, hNs, hNs2, fun H1 s1 => ⟨_, rfl, ?_⟩⟩
    by_cases c : (ms.all fun z => decide (z ∈ ns)) = true
    · rw [c]
      refine iteT ⟨_, rfl, p, C, dx, _, _, rfl, s1 _ _ h1, T.ins.cl, T.nM, flM_get t, _, rfl, q, C, dy, _, _, rfl, s1 _ _ g1, T.ins.cl, T.nM, flM_get u, ?_⟩
      refine ⟨_, _, .tup (.of (s1 _ _ h2)) (dpS ms), .tup (.of (s1 _ _ g2)) (dpS ns), shT ok, shT ok2, ?_⟩
      show Q (.bl (!PyData.eqvAll _ _)) H1
      rw [eqvS]
      have q := k H1 s1
      rw [c] at q
      exact q
    · have c := Bool.eq_false_iff.mpr c
      rw [c]
      refine iteF ?_
      have q := k H1 s1
      rw [c] at q
      exact q

abbrev CalN (P : Program) (w : World) (K : PySem.W.Frag) (mg : Str → Option Value) (base : Heap) (C : Addr) (dvs : List V) : Prop := CalC P w K mg base CX0 1 "NameSet" C ["self", "names"] (spNsInit K C) dvs
/-- what an operator that makes a set gives -/
def spNsOp (C : Addr) (g : List Str → List Str → Str → Prop) : Sp := fun vs H Q _ => ∃ (p q : Addr) (ms ns : List Str), vs = [.ref p, .ref q] ∧ NSet C H p ms ∧ NSet C H q ns ∧ ms.length + ns.length < 4000 ∧ ∀ r rs H', NSet C H' r rs → (∀ z, z ∈ rs ↔ g ms ns z) → Same H H' → Q (.ref r) H'
abbrev gOr : List Str → List Str → Str → Prop := fun ms ns z => z ∈ ms ∨ z ∈ ns
abbrev gAnd : List Str → List Str → Str → Prop := fun ms ns z => z ∈ ms ∧ z ∈ ns
abbrev gSub : List Str → List Str → Str → Prop := fun ms ns z => z ∈ ms ∧ z ∉ ns
abbrev sNameSetOr : Stmt := inClass (top 1) 4
theorem scNameSetOr : FnScope ["self", "other"] ["self", "other"] (defScope sNameSetOr) := ⟨rfl, rfl, rfl, by decide +kernel, rfl, by decide +kernel, by decide +kernel⟩
theorem ok_nsOr {f : Addr} {fd : FuncData} (F : Fun K "__or__" "NameSet.__or__" sNameSetOr f fd) (T : NsC K mg C) (mk : CalN P w K mg base C []) : FnOk P w K mg base CX0 3 f fd psSO (spNsOp C gOr) := by
  refine F.ok scNameSetOr (fun vs H Q E h => ?_) (fun cdv A outer s H vs Q E hr h => ?_)
  · obtain ⟨p, q, ms, ns, rfl, _⟩ := h
    rfl
  · obtain ⟨p, q, ms, ns, rfl, ⟨dx, t, h1, h2, up, few, ok⟩, ⟨dy, u, g1, g2, up2, few2, ok2⟩, fw, k⟩ := h
    refine ⟨_, (pss_one (ps_ret (pe_mkc mk hr pass0 (pa_cons (pe_op op_catA (fldK K (pv 0)) (fldK K (pv 1))) pa_nil)))), ?_⟩
    have two : ∀ z ∈ ms ++ ns, PyData.strOk z = true := fun z hz => (List.mem_append.mp hz).elim (ok z) (ok2 z)
    refine ⟨_, rfl, p, C, dx, _, _, rfl, h1, T.ins.cl, T.nM, flM_get t, _, rfl, q, C, dy, _, _, rfl, g1, T.ins.cl, T.nM, flM_get u, ?_⟩
    refine ⟨t, u, ms.map V.str, ns.map V.str, rfl, rfl, .of h2, .of g2, ?_⟩
    have few3 : (ms ++ ns).length < 4000 := by rw [List.length_append]; exact fw
    refine ⟨Nat.le_trans (by rw [List.length_map, List.length_map]; omega : _ ≤ 4000) (by decide), fun e => ?_, fun e e2 => ?_, fun e e2 r nr => ?_⟩
    · obtain rfl := List.map_eq_nil_iff.mp e
      refine make_ns (.tup g2) few2 ok2 fun r rs H' n m _ s => k r rs H' n (fun z => ?_) s
      rw [m z]; simp
    · obtain rfl := List.map_eq_nil_iff.mp e2
      refine make_ns (.tup h2) few ok fun r rs H' n m _ s => k r rs H' n (fun z => ?_) s
      rw [m z]; simp
    · rw [← List.map_append]
      refine make_ns (.tup upd_same) few3 two fun r2 rs H' n m _ s => k r2 rs H' n (fun z => ?_) ((Same.new nr).trans s)
      rw [m z, List.mem_append]

abbrev sNameSetAnd : Stmt := inClass (top 1) 5
theorem scNameSetAnd : FnScope ["self", "other", "name"] ["self", "other"] (defScope sNameSetAnd) := ⟨rfl, rfl, rfl, by decide +kernel, rfl, by decide +kernel, by decide +kernel⟩
theorem ok_nsAnd {f : Addr} {fd : FuncData} (F : Fun K "__and__" "NameSet.__and__" sNameSetAnd f fd) (T : NsC K mg C) (mk : CalN P w K mg base C []) : FnOk P w K mg base CX0 3 f fd psSO (spNsOp C gAnd) := by
  refine F.ok scNameSetAnd (fun vs H Q E h => ?_) (fun cdv A outer s H vs Q E hr h => ?_)
  · obtain ⟨p, q, ms, ns, rfl, _⟩ := h
    rfl
  · obtain ⟨p, q, ms, ns, rfl, ⟨dx, t, h1, h2, up, few, ok⟩, ⟨dy, u, g1, g2, up2, few2, ok2⟩, fw, k⟩ := h
    refine ⟨_, (pss_one (ps_ret (pe_mkc mk hr pass0 (pa_cons (pe_lc (own := [("name", 2)]) (g := (gName 2)) rfl scNameSetAnd.nd (pi_tup (fldK K (pv 0))) (blkOk_by (own := [("name", 2)]) (N := ["self", "other", "name"]) (sc := defScope sNameSetAnd) (by decide +kernel)) (fun _ _ _ _ _ => (pg_name (i := 2) scNameSetAnd.nd rfl (by first | exact Or.inl rfl | exact Or.inr rfl))) (fun _ _ _ _ _ => pts_one (pt_cmpR (oin K) (pv 2) (fldK K (pv 1)) (by rfl))) (fun _ _ _ _ _ => (pv 2))) pa_nil)))), ?_⟩
    refine ⟨_, rfl, p, C, dx, _, _, rfl, h1, T.ins.cl, T.nM, flM_get t, t, rfl, ⟨_, .of h2⟩, fun D hD => ?_⟩
    refine lc_it walk_tup (fun i H' => Same H H' ∧ H' D = some (.lst (((ms.take i).filter fun z => decide (z ∈ ns)).map V.str))) ⟨Same.new hD, upd_same⟩ (fun i H' _ q => q.1.tup (.of h2)) ?_ ?_
    · rintro i x H1 _ hi ⟨s1, h3⟩ ⟨rfl, hx⟩
      rw [List.getElem?_map] at hx
      obtain ⟨z, hz, rfl⟩ := Option.map_eq_some_iff.mp hx
      rw [List.length_map] at hi
      have tk : ms.take (i + 1) = ms.take i ++ [z] := by rw [List.take_add_one, hz]; rfl
      refine ⟨rfl, _, rfl, _, rfl, q, C, dy, _, _, rfl, s1 _ _ g1, T.ins.cl, T.nM, flM_get u, u, _, rfl, .inr (.of (s1 _ _ g2)), rfl, flat_strs ns, _, rfl, ?_⟩
      show if (inV (.str z) (ns.map V.str)) = true then _ else _
      rw [inV_str]
      by_cases c : z ∈ ns
      · rw [decide_eq_true c]
        refine iteT ⟨_, rfl, _, h3, ?_, s1.mut hD, ?_⟩
        · rw [List.length_map]
          exact Nat.lt_of_le_of_lt (Nat.le_trans (List.length_filter_le _ _) (List.length_take_le _ _)) (Nat.lt_of_lt_of_le (by omega : i < 4000) (by decide))
        · rw [upd_same, tk, List.filter_append, List.filter_cons_of_pos (by simp [c]), List.filter_nil, List.map_append]
          rfl
      · rw [decide_eq_false c]
        refine iteF ⟨s1, ?_⟩
        rw [tk, List.filter_append, List.filter_cons_of_neg (by simp [c]), List.filter_nil, List.append_nil]
        exact h3
    · rintro H1 ⟨s1, h3⟩
      rw [List.length_map, List.take_length] at h3
      refine make_ns (.lst h3) (Nat.lt_of_le_of_lt (List.length_filter_le _ _) few) (fun z hz => ok z (List.mem_filter.mp hz).1) fun r rs H' n m _ s => k r rs H' n (fun z => ?_) (s1.trans s)
      rw [m z, List.mem_filter]
      simp

abbrev sNameSetSub : Stmt := inClass (top 1) 6
theorem scNameSetSub : FnScope ["self", "other", "name"] ["self", "other"] (defScope sNameSetSub) := ⟨rfl, rfl, rfl, by decide +kernel, rfl, by decide +kernel, by decide +kernel⟩
theorem ok_nsSub {f : Addr} {fd : FuncData} (F : Fun K "__sub__" "NameSet.__sub__" sNameSetSub f fd) (T : NsC K mg C) (mk : CalN P w K mg base C []) : FnOk P w K mg base CX0 3 f fd psSO (spNsOp C gSub) := by
  refine F.ok scNameSetSub (fun vs H Q E h => ?_) (fun cdv A outer s H vs Q E hr h => ?_)
  · obtain ⟨p, q, ms, ns, rfl, _⟩ := h
    rfl
  · obtain ⟨p, q, ms, ns, rfl, ⟨dx, t, h1, h2, up, few, ok⟩, ⟨dy, u, g1, g2, up2, few2, ok2⟩, fw, k⟩ := h
    refine ⟨_, (pss_one (ps_ret (pe_mkc mk hr pass0 (pa_cons (pe_lc (own := [("name", 2)]) (g := (gName 2)) rfl scNameSetSub.nd (pi_tup (fldK K (pv 0))) (blkOk_by (own := [("name", 2)]) (N := ["self", "other", "name"]) (sc := defScope sNameSetSub) (by decide +kernel)) (fun _ _ _ _ _ => (pg_name (i := 2) scNameSetSub.nd rfl (by first | exact Or.inl rfl | exact Or.inr rfl))) (fun _ _ _ _ _ => pts_one (pt_cmpR (nin K) (pv 2) (fldK K (pv 1)) (by rfl))) (fun _ _ _ _ _ => (pv 2))) pa_nil)))), ?_⟩
    refine ⟨_, rfl, p, C, dx, _, _, rfl, h1, T.ins.cl, T.nM, flM_get t, t, rfl, ⟨_, .of h2⟩, fun D hD => ?_⟩
    refine lc_it walk_tup (fun i H' => Same H H' ∧ H' D = some (.lst (((ms.take i).filter fun z => !decide (z ∈ ns)).map V.str))) ⟨Same.new hD, upd_same⟩ (fun i H' _ q => q.1.tup (.of h2)) ?_ ?_
    · rintro i x H1 _ hi ⟨s1, h3⟩ ⟨rfl, hx⟩
      rw [List.getElem?_map] at hx
      obtain ⟨z, hz, rfl⟩ := Option.map_eq_some_iff.mp hx
      rw [List.length_map] at hi
      have tk : ms.take (i + 1) = ms.take i ++ [z] := by rw [List.take_add_one, hz]; rfl
      refine ⟨rfl, _, rfl, _, rfl, q, C, dy, _, _, rfl, s1 _ _ g1, T.ins.cl, T.nM, flM_get u, u, _, rfl, .inr (.of (s1 _ _ g2)), rfl, flat_strs ns, _, rfl, ?_⟩
      show if (!inV (.str z) (ns.map V.str)) = true then _ else _
      rw [inV_str]
      by_cases c : z ∈ ns
      · rw [decide_eq_true c]
        refine iteF ⟨s1, ?_⟩
        rw [tk, List.filter_append, List.filter_cons_of_neg (by simp [c]), List.filter_nil, List.append_nil]
        exact h3
      · rw [decide_eq_false c]
        refine iteT ⟨_, rfl, _, h3, ?_, s1.mut hD, ?_⟩
        · rw [List.length_map]
          exact Nat.lt_of_le_of_lt (Nat.le_trans (List.length_filter_le _ _) (List.length_take_le _ _)) (Nat.lt_of_lt_of_le (by omega : i < 4000) (by decide))
        · rw [upd_same, tk, List.filter_append, List.filter_cons_of_pos (by simp [c]), List.filter_nil, List.map_append]
          rfl
    · rintro H1 ⟨s1, h3⟩
      rw [List.length_map, List.take_length] at h3
      refine make_ns (.lst h3) (Nat.lt_of_le_of_lt (List.length_filter_le _ _) few) (fun z hz => ok z (List.mem_filter.mp hz).1) fun r rs H' n m _ s => k r rs H' n (fun z => ?_) (s1.trans s)
      rw [m z, List.mem_filter]
      simp

def spNsIn (C : Addr) : Sp := fun vs H Q _ => ∃ (p : Addr) (ms : List Str) (z : Str), vs = [.ref p, .str z] ∧ NSet C H p ms ∧ Q (.bl (decide (z ∈ ms))) H
abbrev sNameSetContains : Stmt := inClass (top 1) 7
theorem scNameSetContains : FnScope ["self", "name"] ["self", "name"] (defScope sNameSetContains) := ⟨rfl, rfl, rfl, by decide +kernel, rfl, by decide +kernel, by decide +kernel⟩
theorem ok_nsIn {f : Addr} {fd : FuncData} (F : Fun K "__contains__" "NameSet.__contains__" sNameSetContains f fd) (T : NsC K mg C) : FnOk P w K mg base CX0 1 f fd ["self", "name"] (spNsIn C) := by
  refine F.ok scNameSetContains (fun vs H Q E h => ?_) (fun cdv A outer s H vs Q E hr h => ?_)
  · obtain ⟨p, ms, z, rfl, _⟩ := h
    rfl
  · obtain ⟨p, ms, z, rfl, ⟨dx, t, h1, h2, up, few, ok⟩, k⟩ := h
    refine ⟨_, (pss_one (ps_ret (pe_cmpR (oin K) (pv 1) (fldK K (pv 0)) (by rfl)))), ?_⟩
    refine ⟨_, rfl, _, rfl, p, C, dx, _, _, rfl, h1, T.ins.cl, T.nM, flM_get t, t, _, rfl, .inr (.of h2), rfl, flat_strs ms, ?_⟩
    show Q (.bl (inV (.str z) (ms.map V.str))) H
    rw [inV_str]
    exact k
def spNsLen (C : Addr) : Sp := fun vs H Q _ => ∃ (p : Addr) (ms : List Str), vs = [.ref p] ∧ NSet C H p ms ∧ Q (.int (ms.length : Nat)) H
abbrev sNameSetLen : Stmt := inClass (top 1) 8
theorem scNameSetLen : FnScope ["self"] ["self"] (defScope sNameSetLen) := ⟨rfl, rfl, rfl, by decide +kernel, rfl, by decide +kernel, by decide +kernel⟩
theorem ok_nsLen {f : Addr} {fd : FuncData} (F : Fun K "__len__" "NameSet.__len__" sNameSetLen f fd) (T : NsC K mg C) : FnOk P w K mg base CX0 1 f fd ["self"] (spNsLen C) := by
  refine F.ok scNameSetLen (fun vs H Q E h => ?_) (fun cdv A outer s H vs Q E hr h => ?_)
  · obtain ⟨p, ms, rfl, _⟩ := h
    rfl
  · obtain ⟨p, ms, rfl, ⟨dx, t, h1, h2, up, few, ok⟩, k⟩ := h
    have mLen := T.mLen
    refine ⟨_, (pss_one (ps_ret (pe_callB (k_len K) (by rfl) mLen (by decide +kernel) (pa_cons (fldK K (pv 0)) pa_nil)))), ?_⟩
    refine ⟨_, rfl, p, C, dx, _, _, rfl, h1, T.ins.cl, T.nM, flM_get t, t, _, rfl, .inr (.of h2), ?_⟩
    rw [List.length_map]
    exact k
end
end Mf
namespace Mf
open PySem L2
section
variable {P : Program} {w : World} {K : PySem.W.Frag} {mg : Str → Option Value} {base : Heap} {C : Addr}
/-! ### _law_names, _law_subset, _law_sorted, _law_truths, _law_mixed -/
def spNames : Sp := fun vs H Q _ => ∃ (a : Addr) (many n : Nat), vs = [.ref a, .int many] ∧ many ≤ 16 ∧ Src H a (n + 10 * many) ∧
  ∀ (p : Addr) (zs : List Str) (H' : Hp), zs.length = many → zs.Nodup → (∀ z ∈ zs, IsName z) → H p = none → H' p = some (.lst (zs.map V.str)) → Kp a H H' → Src H' a n → Q (.ref p) H'
abbrev sNames : Stmt := top 6
theorem scNames : FnScope ["_law_source_here", "_law_many", "_law_names_here", "_law_k"] ["_law_source_here", "_law_many"] (defScope sNames) := ⟨rfl, rfl, rfl, by decide +kernel, rfl, by decide +kernel, by decide +kernel⟩
theorem ok_names {f : Addr} {fd : FuncData} (F : Fun K "_law_names" "_law_names" sNames f fd) (c_name : Cal P w K mg base CX0 2 "_law_name" ["_law_source_here", "_law_taken"] (spName K)) (mRange : mg "range" = none) (mList : mg "list" = none) : FnOk P w K mg base CX0 3 f fd ["_law_source_here", "_law_many"] spNames := by
  refine F.ok scNames (fun vs H Q E h => ?_) (fun cdv A outer s H vs Q E hr h => ?_)
  · obtain ⟨a, many, n, rfl, _⟩ := h
    rfl
  · obtain ⟨a, many, n, rfl, m16, S, k⟩ := h
    have hr_name := hr
    refine ⟨_, (pss_cons (ps_set (i := 2) scNames.nd rfl (by first | exact Or.inl rfl | exact Or.inr rfl) (pe_lst pa_nil))
      (pss_cons (ps_for PassesOwn.never rfl (pi_range1 (by rfl) mRange (pa_cons (pv 1) pa_nil)) (pg_name (i := 3) scNames.nd rfl (by first | exact Or.inl rfl | exact Or.inr rfl))
        (pss_one (ps_expr (pe_bm PySem.F.plainAttrs_list PySem.F.slot_list_append PySem.F.type_list_append mt_append (pv 2) (pa_cons (pe_cal c_name hr_name pass0 (pa_cons (pv 0) (pa_cons (pe_callTy (k_list K) (by rfl) mList (by decide +kernel) (pa_cons (pv 2) pa_nil)) pa_nil))) pa_nil)))))
      (pss_one (ps_ret (pv 2))))), ?_⟩
    refine ⟨(by show 0 ≤ sizeLine; decide), fun p hp => ⟨_, rfl, many, rfl, by omega, by omega, ?_⟩⟩
    refine for_range (lo := 0) (n := many) (fun i σ H' => ∃ (zs : List Str) (vk : Option V), σ = [some (.ref a), some (.int many), some (.ref p), vk] ∧ zs.length = i ∧ zs.Nodup ∧ (∀ z ∈ zs, IsName z) ∧ H' p = some (.lst (zs.map V.str)) ∧ Kp a H H' ∧ Src H' a (n + 10 * (many - i)))
      ⟨[], none, rfl, rfl, List.nodup_nil, (by simp), upd_same, Kp.new hp, S.new hp⟩ ?_ ?_
    · rintro i σ H1 hi ⟨zs, vk, rfl, hl, nd, nm, h1, k1, S1⟩
      have pa : p ≠ a := S.ne hp
      refine ⟨_, rfl, .inl ⟨rfl, _, .of h1⟩, _, rfl, _, rfl, p, _, rfl, .inl (.of h1), fun l hl' => ?_⟩
      refine ⟨a, l, zs, n + 10 * (many - (i + 1)), rfl, (S1.new hl').mono (by omega), S1.ne hl', .of upd_same, by omega, fun z H2 nz fz k2 S2 => ?_⟩
      have h2 : H2 p = some (.lst (zs.map V.str)) := k2 _ _ pa ((Same.new hl') _ _ h1)
      refine ⟨p, _, _, rfl, rfl, h2, ?_, ?_⟩
      · rw [List.length_map]
        exact Nat.lt_of_lt_of_le (by omega : zs.length < 16) (by decide)
      · refine ⟨zs ++ [z], _, rfl, by rw [List.length_append, hl]; rfl, ?_, fun y hy => ?_, by rw [upd_same, List.map_append]; rfl, ?_, S2.put pa⟩
        · exact List.nodup_append.mpr ⟨nd, List.nodup_cons.mpr ⟨by simp, List.nodup_nil⟩, fun y hy u hu e => fz (by rw [List.mem_singleton.mp hu] at e; exact e ▸ hy)⟩
        · rcases List.mem_append.mp hy with hy | hy
          · exact nm y hy
          · rw [List.mem_singleton.mp hy]; exact nz
        · exact ((k1.trans (Kp.new hl')).trans k2).mut hp
    · rintro σ H1 ⟨zs, vk, rfl, hl, nd, nm, h1, k1, S1⟩
      exact ⟨_, rfl, k p zs H1 hl nd nm hp h1 k1 (S1.mono (by omega))⟩
def spSubset (K : PySem.W.Frag) : Sp := fun vs H Q _ => ∃ (a r : Addr) (zs : List Str) (n : Nat), vs = [.ref a, .ref r] ∧ r ≠ a ∧ SqL K H r (zs.map V.str) ∧ zs.length ≤ 1000 ∧ Src H a (n + zs.length) ∧
  ∀ (p : Addr) (ys : List Str) (H' : Hp), ys.Sublist zs → H p = none → H' p = some (.lst (ys.map V.str)) → Kp a H H' → Src H' a n → Q (.ref p) H'
abbrev sSubset : Stmt := top 7
theorem scSubset : FnScope ["_law_source_here", "_law_row", "_law_one"] ["_law_source_here", "_law_row"] (defScope sSubset) := ⟨rfl, rfl, rfl, by decide +kernel, rfl, by decide +kernel, by decide +kernel⟩
theorem ok_subset {f : Addr} {fd : FuncData} (F : Fun K "_law_subset" "_law_subset" sSubset f fd) (c_draw : Cal P w K mg base CX0 1 "_law_draw" psD spDraw) : FnOk P w K mg base CX0 2 f fd ["_law_source_here", "_law_row"] (spSubset K) := by
  refine F.ok scSubset (fun vs H Q E h => ?_) (fun cdv A outer s H vs Q E hr h => ?_)
  · obtain ⟨a, r, zs, n, rfl, _⟩ := h
    rfl
  · obtain ⟨a, r, zs, n, rfl, ra, hz, hl, S, k⟩ := h
    have hr_draw := hr
    refine ⟨_, (pss_one (ps_ret (pe_lc (own := [("_law_one", 2)]) (g := (gName 2)) rfl scSubset.nd (pi_list (pv 1)) (blkOk_by (own := [("_law_one", 2)]) (N := ["_law_source_here", "_law_row", "_law_one"]) (sc := defScope sSubset) (by decide +kernel)) (fun _ _ _ _ _ => (pg_name (i := 2) scSubset.nd rfl (by first | exact Or.inl rfl | exact Or.inr rfl))) (fun _ _ _ _ _ => pts_one (pt_cmpR op_eq (pe_cal c_draw hr_draw pass0 (pa_cons (pv 0) (pa_cons pe_int pa_nil))) pe_int (nomark _))) (fun _ _ _ _ _ => (pv 2))))), ?_⟩
    refine ⟨_, rfl, r, rfl, ⟨_, hz⟩, fun D hD => ?_⟩
    have Da : D ≠ a := S.ne hD
    refine lc_it walk_list (fun i H' => ∃ ys : List Str, ys.Sublist (zs.take i) ∧ H' D = some (.lst (ys.map V.str)) ∧ Kp a H H' ∧ Src H' a (n + (zs.length - i))) ⟨[], List.Sublist.refl _, upd_same, Kp.new hD, S.new hD⟩ (fun i H' _ q => q.choose_spec.2.2.1.lst ra hz) ?_ ?_
    · rintro i x H1 _ hi ⟨ys, sb, h1, k1, S1⟩ ⟨rfl, hx⟩
      rw [List.getElem?_map] at hx
      obtain ⟨z, hz', rfl⟩ := Option.map_eq_some_iff.mp hx
      rw [List.length_map] at hi
      have tk : zs.take (i + 1) = zs.take i ++ [z] := by rw [List.take_add_one, hz']; rfl
      refine ⟨rfl, _, rfl, a, 2, n + (zs.length - (i + 1)), rfl, by decide, by decide, S1.mono (by omega), fun v H2 v0 v1 k2 S2 => ⟨rfl, _, rfl, ite2 (fun _ => ?_) fun _ => ?_⟩⟩
      · refine ⟨_, rfl, _, k2 _ _ Da h1, ?_, ys ++ [z], by rw [tk]; exact List.Sublist.append sb (List.Sublist.refl _), by rw [upd_same, List.map_append]; rfl, (k1.trans k2).mut hD, S2.put Da⟩
        rw [List.length_map]
        have q := sb.length_le
        rw [List.length_take] at q
        exact Nat.lt_of_lt_of_le (by omega : ys.length < 1001) (by decide)
      · exact ⟨ys, by rw [tk]; exact sb.trans (List.sublist_append_left _ _), k2 _ _ Da h1, k1.trans k2, S2⟩
    · rintro H1 ⟨ys, sb, h1, k1, S1⟩
      rw [List.length_map, List.take_length] at sb
      exact k D ys H1 sb hD h1 k1 (S1.mono (by omega))

def spSorted (K : PySem.W.Frag) : Sp := fun vs H Q _ => ∃ (r : Addr) (zs : List Str), vs = [.ref r] ∧ SqL K H r (zs.map V.str) ∧ zs.length < 64 ∧ ∀ (t : Addr) (ys : List Str) (H' : Hp), PyProof.Rows.sortedS ys = true → ys.Perm zs → H' t = some (.tup (ys.map V.str)) → Same H H' → Q (.ref t) H'
abbrev sSorted : Stmt := top 8
theorem scSorted : FnScope ["_law_names_here", "_law_name_here"] ["_law_names_here"] (defScope sSorted) := ⟨rfl, rfl, rfl, by decide +kernel, rfl, by decide +kernel, by decide +kernel⟩
theorem ok_sorted {f : Addr} {fd : FuncData} (F : Fun K "_law_sorted" "_law_sorted" sSorted f fd) (mTuple : mg "tuple" = none) (mSorted : mg "sorted" = none) (mStr : mg "str" = none) : FnOk P w K mg base CX0 1 f fd ["_law_names_here"] (spSorted K) := by
  refine F.ok scSorted (fun vs H Q E h => ?_) (fun cdv A outer s H vs Q E hr h => ?_)
  · obtain ⟨r, zs, rfl, _⟩ := h
    rfl
  · obtain ⟨r, zs, rfl, hz, hl, k⟩ := h
    refine ⟨_, (pss_one (ps_ret (pe_callTy (k_tuple K) (by rfl) mTuple (by decide +kernel) (pa_cons (pe_callB (k_sortedS K) (by rfl) mSorted (by decide +kernel) (pa_cons (pe_lc (own := [("_law_name_here", 1)]) (g := (gName 1)) (tt := tYes) rfl scSorted.nd (pi_list (pv 0)) (blkOk_by (own := [("_law_name_here", 1)]) (N := ["_law_names_here", "_law_name_here"]) (sc := defScope sSorted) (by decide +kernel)) (fun _ _ _ _ _ => (pg_name (i := 1) scSorted.nd rfl (by first | exact Or.inl rfl | exact Or.inr rfl))) (fun _ _ _ _ _ => pts_nil) (fun _ _ _ _ _ => (pe_callTy SkE.call_str_str (by rfl) mStr (by decide +kernel) (pa_cons (pv 1) pa_nil)))) pa_nil)) pa_nil)))), ?_⟩
    refine ⟨_, rfl, r, rfl, ⟨_, hz⟩, fun D hD => ?_⟩
    refine lc_it walk_list (fun i H' => Same H H' ∧ H' D = some (.lst ((zs.take i).map V.str))) ⟨Same.new hD, upd_same⟩ (fun i H' _ q => q.1.seq hz) ?_ ?_
    · rintro i x H1 _ hi ⟨s1, h1⟩ ⟨rfl, hx⟩
      rw [List.getElem?_map] at hx
      obtain ⟨z, hz', rfl⟩ := Option.map_eq_some_iff.mp hx
      rw [List.length_map] at hi
      have tk : zs.take (i + 1) = zs.take i ++ [z] := by rw [List.take_add_one, hz']; rfl
      refine ⟨rfl, yes_then ?_⟩
      refine ⟨_, rfl, z, rfl, _, h1, ?_, s1.mut hD, by rw [upd_same, tk, List.map_append]; rfl⟩
      rw [List.length_map]
      exact Nat.lt_of_le_of_lt (List.length_take_le _ _) (Nat.lt_of_lt_of_le (by omega : i < 64) (by decide))
    · rintro H1 ⟨s1, h1⟩
      rw [List.length_map, List.take_length] at h1
      refine ⟨D, zs, rfl, .of h1, hl, fun ys p pm so np => ⟨p, _, rfl, .inl ⟨.of upd_same, fun t nt => ?_⟩⟩⟩
      exact k t ys _ so pm upd_same ((s1.trans (Same.new np)).trans (Same.new nt))

def spTruths : Sp := fun vs H Q _ => ∃ (f d : Addr) (bs cs : List Bool), vs = [.ref f, .ref d] ∧ H f = some (.lst (bs.map V.bl)) ∧ H d = some (.lst (cs.map V.bl)) ∧ bs.length ≤ 1000 ∧ ∀ H', Same H H' → Q (.bl (decide (bs = cs))) H'
abbrev sTruths : Stmt := top 9
theorem scTruths : FnScope ["_law_found", "_law_due", "_law_truth"] ["_law_found", "_law_due"] (defScope sTruths) := ⟨rfl, rfl, rfl, by decide +kernel, rfl, by decide +kernel, by decide +kernel⟩
theorem ok_truths {f : Addr} {fd : FuncData} (F : Fun K "_law_truths" "_law_truths" sTruths f fd) (mAll : mg "all" = none) (mIsi : mg "isinstance" = none) (mBool : mg "bool" = none) : FnOk P w K mg base CX0 1 f fd ["_law_found", "_law_due"] spTruths := by
  refine F.ok scTruths (fun vs H Q E h => ?_) (fun cdv A outer s H vs Q E hr h => ?_)
  · obtain ⟨f, d, bs, cs, rfl, _⟩ := h
    rfl
  · obtain ⟨f, d, bs, cs, rfl, hf, hd, hl, k⟩ := h
    refine ⟨_, (pss_one (ps_ret (pe_and (pe_callB (k_all K) (by rfl) mAll (by decide +kernel) (pa_cons (pe_lc (own := [("_law_truth", 2)]) (g := (gName 2)) (tt := tYes) rfl scTruths.nd (pi_list (pv 0)) (blkOk_by (own := [("_law_truth", 2)]) (N := ["_law_found", "_law_due", "_law_truth"]) (sc := defScope sTruths) (by decide +kernel)) (fun _ _ _ _ _ => (pg_name (i := 2) scTruths.nd rfl (by first | exact Or.inl rfl | exact Or.inr rfl))) (fun _ _ _ _ _ => pts_nil) (fun _ _ _ _ _ => (pe_callB (k_isi K) (by rfl) mIsi (by decide +kernel) (pa_cons (pv 2) (pa_cons (pe_bltn (v := .ty "bool") (by rfl) mBool (by decide +kernel) rfl) pa_nil))))) pa_nil)) (pe_one (pe_cmpR (eqD K hr) (pv 0) (pv 1) (nomark _)))))), ?_⟩
    refine ⟨_, rfl, f, rfl, ⟨_, .of hf⟩, fun D hD => ?_⟩
    refine lc_it walk_list (fun i H' => Same H H' ∧ H' D = some (.lst ((bs.take i).map fun _ => V.bl true))) ⟨Same.new hD, upd_same⟩ (fun i H' _ q => .of (q.1 _ _ hf)) ?_ ?_
    · rintro i x H1 _ hi ⟨s1, h1⟩ ⟨rfl, hx⟩
      rw [List.getElem?_map] at hx
      obtain ⟨z, hz', rfl⟩ := Option.map_eq_some_iff.mp hx
      rw [List.length_map] at hi
      have tk : bs.take (i + 1) = bs.take i ++ [z] := by rw [List.take_add_one, hz']; rfl
      refine ⟨rfl, yes_then ?_⟩
      refine ⟨_, rfl, _, _, _, _, true, rfl, .ty _, .base (.bl z), kit_ty (by decide +kernel), _, h1, ?_, s1.mut hD, by rw [upd_same, tk, List.map_append]; rfl⟩
      rw [List.length_map]
      exact Nat.lt_of_le_of_lt (List.length_take_le _ _) (Nat.lt_of_lt_of_le (by omega : i < 1000) (by decide))
    · rintro H1 ⟨s1, h1⟩
      have e : ((bs.take (bs.map V.bl).length).map fun _ => V.bl true) = (bs.map fun _ => true).map V.bl := by rw [List.length_map, List.take_length, List.map_map]; rfl
      rw [e] at h1
      have al : (bs.map fun _ => true).all id = true := by rw [List.all_map]; exact List.all_eq_true.mpr fun _ _ => rfl
      refine ⟨D, _, rfl, .of h1, _, rfl, ?_⟩
      rw [al]
      refine iteT ⟨_, rfl, _, rfl, _, _, .lst (.of (s1 _ _ hf)) (dpB bs), .lst (.of (s1 _ _ hd)) (dpB cs), shB bs, shB cs, ?_⟩
      show Q (.bl (PyData.eqvAll _ _)) H1
      rw [eqvB]
      exact k H1 s1

def spMixed (K : PySem.W.Frag) : Sp := fun vs H Q _ => ∃ (a r : Addr) (zs : List Str) (n : Nat), vs = [.ref a, .ref r] ∧ r ≠ a ∧ SqL K H r (zs.map V.str) ∧ zs.length ≤ 100 ∧ Src H a (n + 3 * zs.length) ∧
  ∀ (p : Addr) (ys : List Str) (H' : Hp), (∀ z, z ∈ ys ↔ z ∈ zs) → ys.length ≤ 2 * zs.length → H p = none → H' p = some (.lst (ys.map V.str)) → Kp a H H' → Src H' a n → Q (.ref p) H'
abbrev sMixed : Stmt := top 10
theorem scMixed : FnScope ["_law_source_here", "_law_row", "_law_mixed_here", "_law_name_here", "_law_turn"] ["_law_source_here", "_law_row"] (defScope sMixed) := ⟨rfl, rfl, rfl, by decide +kernel, rfl, by decide +kernel, by decide +kernel⟩
theorem ok_mixed {f : Addr} {fd : FuncData} (F : Fun K "_law_mixed" "_law_mixed" sMixed f fd) (c_draw : Cal P w K mg base CX0 1 "_law_draw" psD spDraw) (mRange : mg "range" = none) (mLen : mg "len" = none) : FnOk P w K mg base CX0 2 f fd ["_law_source_here", "_law_row"] (spMixed K) := by
  refine F.ok scMixed (fun vs H Q E h => ?_) (fun cdv A outer s H vs Q E hr h => ?_)
  · obtain ⟨a, r, zs, n, rfl, _⟩ := h
    rfl
  · obtain ⟨a, r, zs, n, rfl, ra, hz, hl, S, k⟩ := h
    have hr_draw := hr
    refine ⟨_, (pss_cons (ps_set (i := 2) scMixed.nd rfl (by first | exact Or.inl rfl | exact Or.inr rfl) (pe_lst pa_nil))
      (pss_cons (ps_for PassesOwn.never rfl (pi_list (pv 1)) (pg_name (i := 3) scMixed.nd rfl (by first | exact Or.inl rfl | exact Or.inr rfl))
        (pss_one (ps_for PassesOwn.never rfl (pi_range1 (by rfl) mRange (pa_cons (pe_op op_add pe_int (pe_cal c_draw hr_draw pass0 (pa_cons (pv 0) (pa_cons pe_int pa_nil)))) pa_nil)) (pg_name (i := 4) scMixed.nd rfl (by first | exact Or.inl rfl | exact Or.inr rfl))
          (pss_one (ps_expr (pe_bm PySem.F.plainAttrs_list PySem.F.slot_list_insert PySem.F.type_list_insert mt_insert (pv 2) (pa_cons (pe_cal c_draw hr_draw pass0 (pa_cons (pv 0) (pa_cons (pe_op op_add (pe_callB (k_len K) (by rfl) mLen (by decide +kernel) (pa_cons (pv 2) pa_nil)) pe_int) pa_nil))) (pa_cons (pv 3) pa_nil))))))))
      (pss_one (ps_ret (pv 2))))), ?_⟩
    refine ⟨(by show 0 ≤ sizeLine; decide), fun p hp => ⟨_, rfl, r, rfl, ⟨_, (Same.new hp).seq hz⟩, ?_⟩⟩
    have pa : p ≠ a := S.ne hp
    refine for_it walk_list (fun i σ H' => ∃ (ys : List Str) (vk vt : Option V), σ = [some (.ref a), some (.ref r), some (.ref p), vk, vt] ∧ (∀ z, z ∈ ys ↔ z ∈ zs.take i) ∧ ys.length ≤ 2 * i ∧ H' p = some (.lst (ys.map V.str)) ∧ Kp a H H' ∧ Src H' a (n + 3 * (zs.length - i)))
      ⟨[], none, none, rfl, (by simp), Nat.le_refl _, upd_same, Kp.new hp, S.new hp⟩ (fun i σ H' _ q => q.choose_spec.choose_spec.choose_spec.2.2.2.2.1.lst ra hz) ?_ ?_
    · rintro i x σ H1 _ hi ⟨ys, vk, vt, rfl, hm, hly, h1, k1, S1⟩ ⟨rfl, hx⟩
      rw [List.getElem?_map] at hx
      obtain ⟨z, hz', rfl⟩ := Option.map_eq_some_iff.mp hx
      rw [List.length_map] at hi
      have tk : zs.take (i + 1) = zs.take i ++ [z] := by rw [List.take_add_one, hz']; rfl
      refine ⟨_, rfl, a, 2, n + 3 * (zs.length - (i + 1)) + 2, rfl, by decide, by decide, S1.mono (by omega), fun v H2 v0 v1 k2 S2 => ⟨_, _, rfl, rfl, 1 + v, rfl, by omega, by omega, ?_⟩⟩
      have h2 := k2 _ _ pa h1
      refine for_range (lo := 0) (n := (1 + v).toNat) (fun j σ H' => ∃ (ws : List Str) (vt : Option V), σ = [some (.ref a), some (.ref r), some (.ref p), some (.str z), vt] ∧ (∀ y, y ∈ ws ↔ y ∈ zs.take i ∨ (0 < j ∧ y = z)) ∧ ws.length = ys.length + j ∧ H' p = some (.lst (ws.map V.str)) ∧ Kp a H H' ∧ Src H' a (n + 3 * (zs.length - (i + 1)) + (2 - j)))
        ⟨ys, vt, rfl, fun y => by rw [hm y]; simp, rfl, h2, k1.trans k2, S2⟩ ?_ ?_
      · rintro j σ H3 hj ⟨ws, vt, rfl, wm, wl, h3, k3, S3⟩
        refine ⟨_, rfl, .inl ⟨rfl, _, .of h3⟩, _, rfl, _, rfl, p, _, rfl, .inl (.of h3), _, _, rfl, rfl, a, _, n + 3 * (zs.length - (i + 1)) + (2 - (j + 1)), rfl, by omega, ?_, S3.mono (by omega), fun u H4 u0 u1 k4 S4 => ?_⟩
        · rw [List.length_map]
          have : ((ws.length : Int) + 1).natAbs < 1000 := by omega
          exact Nat.lt_trans this (by decide)
        refine ⟨_, rfl, p, _, u, _, rfl, rfl, k4 _ _ pa h3, ?_, u0, ?_, ?_⟩
        · rw [List.length_map]
          exact Nat.lt_of_lt_of_le (by omega : ws.length < 1000) (by decide)
        · rw [List.length_map] at u1
          omega
        · refine ⟨ws.take u.toNat ++ [z] ++ ws.drop u.toNat, _, rfl, fun y => ?_, ?_, ?_, (k3.trans k4).mut hp, S4.put pa⟩
          · rw [List.mem_append, List.mem_append, List.mem_singleton]
            have split : y ∈ ws ↔ y ∈ ws.take u.toNat ∨ y ∈ ws.drop u.toNat := by rw [← List.mem_append, List.take_append_drop]
            rw [wm y] at split
            constructor
            · rintro ((h | rfl) | h)
              · exact (split.mpr (.inl h)).imp id fun q => ⟨by omega, q.2⟩
              · exact .inr ⟨by omega, rfl⟩
              · exact (split.mpr (.inr h)).imp id fun q => ⟨by omega, q.2⟩
            · rintro (h | ⟨_, rfl⟩)
              · rcases split.mp (.inl h) with q | q
                · exact .inl (.inl q)
                · exact .inr q
              · exact .inl (.inr rfl)
          · simp only [List.length_append, List.length_take, List.length_drop, List.length_singleton]
            omega
          · rw [upd_same, List.map_append, List.map_append, List.map_take, List.map_drop]
            rfl
      · rintro σ H3 ⟨ws, vt, rfl, wm, wl, h3, k3, S3⟩
        refine ⟨ws, _, _, rfl, fun y => ?_, by omega, h3, k3, S3.mono (by omega)⟩
        rw [wm y, tk, List.mem_append, List.mem_singleton]
        have : 0 < (1 + v).toNat := by omega
        exact ⟨fun q => q.imp id fun q => q.2, fun q => q.imp id fun q => ⟨this, q⟩⟩
    · rintro σ H1 ⟨ys, vk, vt, rfl, hm, hly, h1, k1, S1⟩
      rw [List.length_map] at hly S1 hm
      rw [List.take_length] at hm
      exact ⟨_, rfl, k p ys H1 hm hly hp h1 k1 (S1.mono (by omega))⟩
end
end Mf
namespace Mf
open PySem L2
section
variable {P : Program} {w : World} {K : PySem.W.Frag} {mg : Str → Option Value} {base : Heap} {C : Addr}
def spIs (K : PySem.W.Frag) (C : Addr) : Sp := fun vs H Q _ => ∃ (p d : Addr) (ms zs : List Str), vs = [.ref p, .ref d] ∧ NSet C H p ms ∧ SqL K H d (zs.map V.str) ∧ zs.length < 64 ∧ zs.Nodup ∧ (∀ z, z ∈ ms ↔ z ∈ zs) ∧ ∀ H', Same H H' → Q (.bl true) H'
theorem sorted_is {ms zs ys : List Str} (up : Up ms) (nd : zs.Nodup) (m : ∀ z, z ∈ ms ↔ z ∈ zs) (so : PyProof.Rows.sortedS ys = true) (pm : ys.Perm zs) : ys = ms :=
  up_one (up_of so (pm.nodup_iff.mpr nd)) up fun z => by rw [pm.mem_iff, m z]
abbrev sIs : Stmt := top 11
theorem scIs : FnScope ["_law_found", "_law_due"] ["_law_found", "_law_due"] (defScope sIs) := ⟨rfl, rfl, rfl, by decide +kernel, rfl, by decide +kernel, by decide +kernel⟩
theorem ok_is {f : Addr} {fd : FuncData} (F : Fun K "_law_is" "_law_is" sIs f fd) (T : NsC K mg C) (c_sorted : Cal P w K mg base CX0 1 "_law_sorted" ["_law_names_here"] (spSorted K)) : FnOk P w K mg base CX0 2 f fd ["_law_found", "_law_due"] (spIs K C) := by
  refine F.ok scIs (fun vs H Q E h => ?_) (fun cdv A outer s H vs Q E hr h => ?_)
  · obtain ⟨p, d, ms, zs, rfl, _⟩ := h
    rfl
  · obtain ⟨p, d, ms, zs, rfl, ⟨dx, t, h1, h2, up, few, ok⟩, hd, hl, nd, m, k⟩ := h
    have mIsi := T.mIsi; have mg_NameSet := T.mgC; have mTuple := T.mTuple; have hr_sorted := hr
    refine ⟨_, (pss_one (ps_ret (pe_and (pe_callB (k_isi K) (by rfl) mIsi (by decide +kernel) (pa_cons (pv 0) (pa_cons (pe_glob (v := .ref _) rfl mg_NameSet rfl) pa_nil))) (pe_and (pe_callB (k_isi K) (by rfl) mIsi (by decide +kernel) (pa_cons (fldK K (pv 0)) (pa_cons (pe_bltn (v := .ty "tuple") (by rfl) mTuple (by decide +kernel) rfl) pa_nil))) (pe_one (pe_cmpR (eqD K hr) (fldK K (pv 0)) (pe_cal c_sorted hr_sorted pass0 (pa_cons (pv 1) pa_nil)) (nomark _))))))), ?_⟩
    refine ⟨_, rfl, _, _, _, _, true, rfl, .own C, T.isi h1, T.ins.me, _, rfl, iteT ⟨_, rfl, p, C, dx, _, _, rfl, h1, T.ins.cl, T.nM, flM_get t, _, _, _, _, true, rfl, .ty _, .base (.tup h2), kit_ty (by decide +kernel), _, rfl, iteT ?_⟩⟩
    refine ⟨_, rfl, p, C, dx, _, _, rfl, h1, T.ins.cl, T.nM, flM_get t, _, rfl, d, zs, rfl, hd, hl, fun u ys H1 so pm h3 s1 => ?_⟩
    obtain rfl := sorted_is up nd m so pm
    refine ⟨_, _, .tup (.of (s1 _ _ h2)) (dpS ys), .tup (.of h3) (dpS ys), shT ok, shT ok, ?_⟩
    show Q (.bl (PyData.eqvAll _ _)) H1
    rw [eqvS, decide_eq_true rfl]
    exact k H1 s1
theorem within_eq {ms ns one other : List Str} (m : ∀ z, z ∈ ms ↔ z ∈ one) (n : ∀ z, z ∈ ns ↔ z ∈ other) : (ms.all fun z => decide (z ∈ ns)) = one.all fun z => decide (z ∈ other) := by
  rw [Bool.eq_iff_iff]
  simp only [List.all_eq_true, decide_eq_true_eq]
  exact ⟨fun h z hz => (n z).mp (h z ((m z).mpr hz)), fun h z hz => (n z).mpr (h z ((m z).mp hz))⟩
theorem sets_eq {ms ns one other : List Str} (up : Up ms) (un : Up ns) (m : ∀ z, z ∈ ms ↔ z ∈ one) (n : ∀ z, z ∈ ns ↔ z ∈ other) : ms = ns ↔ ∀ z, z ∈ one ↔ z ∈ other :=
  ⟨fun e z => by rw [← m z, ← n z, e], fun h => up_one up un fun z => by rw [m z, n z, h z]⟩
theorem less_eq {ms ns one other : List Str} (up : Up ms) (un : Up ns) (m : ∀ z, z ∈ ms ↔ z ∈ one) (n : ∀ z, z ∈ ns ↔ z ∈ other) (d1 : one.Nodup) (d2 : other.Nodup) :
    ((ms.all fun z => decide (z ∈ ns)) && !decide (ms = ns)) = ((one.all fun z => decide (z ∈ other)) && decide (one.length < other.length)) := by
  rw [within_eq m n]
  cases e : one.all fun z => decide (z ∈ other) with
  | false => rfl
  | true =>
    have sub : one ⊆ other := fun z hz => by
      have q := List.all_eq_true.mp e z hz
      exact of_decide_eq_true q
    have le := nodup_le d1 sub
    rw [Bool.true_and, Bool.true_and]
    by_cases c : ms = ns
    · have q := (sets_eq up un m n).mp c
      have le2 := nodup_le d2 fun z hz => (q z).mpr hz
      rw [decide_eq_true c, decide_eq_false (by omega)]; rfl
    · rw [decide_eq_false c]
      have lt : one.length < other.length := Classical.byContradiction fun h => c ((sets_eq up un m n).mpr fun z => ⟨fun hz => sub hz, fun hz => Classical.byContradiction fun nz => by
        have q := nodup_le (l := z :: one) (m := other) (List.nodup_cons.mpr ⟨nz, d1⟩) fun y hy => (List.mem_cons.mp hy).elim (fun e => e ▸ hz) fun h => sub h
        rw [List.length_cons] at q
        omega⟩)
      rw [decide_eq_true lt]; rfl

structure NsOps (P : Program) (w : World) (K : PySem.W.Frag) (mg : Str → Option Value) (base : Heap) (C : Addr) : Prop where
  eq : CalM P w K mg base CX0 1 C "__eq__" psSO (spNsEq K C)
  le : CalM P w K mg base CX0 1 C "__le__" psSO (spNsLe C)
  lt : CalM P w K mg base CX0 2 C "__lt__" psSO (spNsLt C)
  or_ : CalM P w K mg base CX0 3 C "__or__" psSO (spNsOp C gOr)
  and_ : CalM P w K mg base CX0 3 C "__and__" psSO (spNsOp C gAnd)
  sub : CalM P w K mg base CX0 3 C "__sub__" psSO (spNsOp C gSub)
  has : CalM P w K mg base CX0 1 C "__contains__" ["self", "name"] (spNsIn C)
  len : CalM P w K mg base CX0 1 C "__len__" ["self"] (spNsLen C)
  ne : PySem.W.findIn K (.ref C) "__ne__" = some (some (.builtin "object.__ne__"))
  sf : PySem.W.selfFirst K C = true
theorem NsC.below {H : Hp} {q : Addr} {ms : List Str} (T : NsC K mg C) (h : NSet C H q ms) : NotBelow K C (.ref q) H :=
  let ⟨_, _, h1, _⟩ := h
  ⟨.ref C, T.isi h1, by simp [PySem.W.notFirst]⟩
def spPair (K : PySem.W.Frag) (C : Addr) : Sp := fun vs H Q _ => ∃ (p q a b : Addr) (ms ns one other : List Str), vs = [.ref p, .ref q, .ref a, .ref b] ∧ NSet C H p ms ∧ NSet C H q ns ∧ H a = some (.lst (one.map V.str)) ∧ H b = some (.lst (other.map V.str)) ∧
  one.length ≤ 16 ∧ other.length ≤ 16 ∧ one.Nodup ∧ other.Nodup ∧ (∀ z, z ∈ ms ↔ z ∈ one) ∧ (∀ z, z ∈ ns ↔ z ∈ other) ∧ ((∀ z, z ∈ one ↔ z ∈ other) → one = other) ∧ ∀ H', Same H H' → Q (.bl true) H'
abbrev sPair : Stmt := top 12
theorem scPair : FnScope ["_law_left", "_law_right", "_law_one", "_law_other", "_law_within", "_law_name_here"] ["_law_left", "_law_right", "_law_one", "_law_other"] (defScope sPair) := ⟨rfl, rfl, rfl, by decide +kernel, rfl, by decide +kernel, by decide +kernel⟩
set_option maxHeartbeats 1000000 in
theorem ok_pair {f : Addr} {fd : FuncData} (F : Fun K "_law_pair" "_law_pair" sPair f fd) (T : NsC K mg C) (O : NsOps P w K mg base C) (c_sorted : Cal P w K mg base CX0 1 "_law_sorted" ["_law_names_here"] (spSorted K)) (c_truths : Cal P w K mg base CX0 1 "_law_truths" ["_law_found", "_law_due"] spTruths)
    (c_is : Cal P w K mg base CX0 2 "_law_is" ["_law_found", "_law_due"] (spIs K C)) : FnOk P w K mg base CX0 4 f fd ["_law_left", "_law_right", "_law_one", "_law_other"] (spPair K C) := by
  refine F.ok scPair (fun vs H Q E h => ?_) (fun cdv A outer s H vs Q E hr h => ?_)
  · obtain ⟨p, q, a, b, ms, ns, one, other, rfl, _⟩ := h
    rfl
  · obtain ⟨p, q, a, b, ms, ns, one, other, rfl, hP, hN, ha, hb, l1, l2, d1, d2, m, n, inj, k⟩ := h
    have mAll := T.mAll; have mLen := T.mLen
    have hr_sorted : Room 1 _ := hr.mono (by decide : 1 ≤ 3); have hr_truths := hr_sorted; have hr_is : Room 2 _ := hr.mono (by decide : 2 ≤ 3)
    refine ⟨_, (pss_cons (ps_set (i := 4) scPair.nd rfl (by first | exact Or.inl rfl | exact Or.inr rfl) (pe_callB (k_all K) (by rfl) mAll (by decide +kernel) (pa_cons (pe_lc (own := [("_law_name_here", 5)]) (g := (gName 5)) (tt := tYes) rfl scPair.nd (pi_list (pv 2)) (blkOk_by (own := [("_law_name_here", 5)]) (N := ["_law_left", "_law_right", "_law_one", "_law_other", "_law_within", "_law_name_here"]) (sc := defScope sPair) (by decide +kernel)) (fun _ _ _ _ _ => (pg_name (i := 5) scPair.nd rfl (by first | exact Or.inl rfl | exact Or.inr rfl))) (fun _ _ _ _ _ => pts_nil) (fun _ _ _ _ _ => (pe_cmpR (oin K) (pv 5) (pv 3) (by rfl)))) pa_nil)))
      (pss_cons (ps_if (pt_not (pt_val (pe_cal c_truths hr_truths pass0 (pa_cons (pe_lst (pa_cons (pe_cmpR (om_cmp (op := .LtE) K O.le hr_sorted pass0) (pv 0) (pv 1) (nomark _)) (pa_cons (pe_cmpR (om_cmp (op := .Lt) K O.lt hr_is pass0) (pv 0) (pv 1) (nomark _)) pa_nil))) (pa_cons (pe_lst (pa_cons (pv 4) (pa_cons (pe_and (pv 4) (pe_one (pe_cmpR op_lt (pe_callB (k_len K) (by rfl) mLen (by decide +kernel) (pa_cons (pv 2) pa_nil)) (pe_callB (k_len K) (by rfl) mLen (by decide +kernel) (pa_cons (pv 3) pa_nil)) (nomark _)))) pa_nil))) pa_nil)))))
        (pss_one (ps_ret pe_bl)) pss_nil)
      (pss_cons (ps_if (pt_not (pt_val (pe_cal c_truths hr_truths pass0 (pa_cons (pe_lst (pa_cons (pe_cmpR (om_cmp (op := .Eq) K O.eq hr_sorted pass0) (pv 0) (pv 1) (nomark _)) (pa_cons (pe_cmpR (om_ne K O.eq O.ne T.ins.hm hr_is pass0) (pv 0) (pv 1) (nomark _)) pa_nil))) (pa_cons (pe_lst (pa_cons (pe_cmpR (eqD K hr) (pe_cal c_sorted hr_sorted pass0 (pa_cons (pv 2) pa_nil)) (pe_cal c_sorted hr_sorted pass0 (pa_cons (pv 3) pa_nil)) (nomark _)) (pa_cons (pe_cmpR (neD K hr) (pv 2) (pv 3) (nomark _)) pa_nil))) pa_nil)))))
        (pss_one (ps_ret pe_bl)) pss_nil)
      (pss_cons (ps_if (pt_not (pt_val (pe_cal c_is hr_is pass0 (pa_cons (pe_op (om_bin (op := .BitAnd) O.and_ O.sf hr pass0) (pv 0) (pv 1)) (pa_cons (pe_lc (own := [("_law_name_here", 5)]) (g := (gName 5)) rfl scPair.nd (pi_list (pv 2)) (blkOk_by (own := [("_law_name_here", 5)]) (N := ["_law_left", "_law_right", "_law_one", "_law_other", "_law_within", "_law_name_here"]) (sc := defScope sPair) (by decide +kernel)) (fun _ _ _ _ _ => (pg_name (i := 5) scPair.nd rfl (by first | exact Or.inl rfl | exact Or.inr rfl))) (fun _ _ _ _ _ => pts_one (pt_cmpR (oin K) (pv 5) (pv 3) (by rfl))) (fun _ _ _ _ _ => (pv 5))) pa_nil)))))
        (pss_one (ps_ret pe_bl)) pss_nil)
      (pss_cons (ps_if (pt_not (pt_val (pe_cal c_is hr_is pass0 (pa_cons (pe_op (om_bin (op := .Sub) O.sub O.sf hr pass0) (pv 0) (pv 1)) (pa_cons (pe_lc (own := [("_law_name_here", 5)]) (g := (gName 5)) rfl scPair.nd (pi_list (pv 2)) (blkOk_by (own := [("_law_name_here", 5)]) (N := ["_law_left", "_law_right", "_law_one", "_law_other", "_law_within", "_law_name_here"]) (sc := defScope sPair) (by decide +kernel)) (fun _ _ _ _ _ => (pg_name (i := 5) scPair.nd rfl (by first | exact Or.inl rfl | exact Or.inr rfl))) (fun _ _ _ _ _ => pts_one (pt_cmpR (nin K) (pv 5) (pv 3) (by rfl))) (fun _ _ _ _ _ => (pv 5))) pa_nil)))))
        (pss_one (ps_ret pe_bl)) pss_nil)
      (pss_one (ps_ret (pe_cal c_is hr_is pass0 (pa_cons (pe_op (om_bin (op := .BitOr) O.or_ O.sf hr pass0) (pv 0) (pv 1)) (pa_cons (pe_op op_cat (pv 2) (pe_lc (own := [("_law_name_here", 5)]) (g := (gName 5)) rfl scPair.nd (pi_list (pv 3)) (blkOk_by (own := [("_law_name_here", 5)]) (N := ["_law_left", "_law_right", "_law_one", "_law_other", "_law_within", "_law_name_here"]) (sc := defScope sPair) (by decide +kernel)) (fun _ _ _ _ _ => (pg_name (i := 5) scPair.nd rfl (by first | exact Or.inl rfl | exact Or.inr rfl))) (fun _ _ _ _ _ => pts_one (pt_cmpR (nin K) (pv 5) (pv 2) (by rfl))) (fun _ _ _ _ _ => (pv 5)))) pa_nil)))))))))), ?_⟩
    have up := hP.choose_spec.choose_spec.2.2.1
    have un := hN.choose_spec.choose_spec.2.2.1
    -- within
    refine ⟨_, rfl, a, rfl, ⟨_, .of ha⟩, fun D hD => ?_⟩
    refine lc_it walk_list (fun i H' => Same H H' ∧ H' D = some (.lst ((one.take i).map fun z => V.bl (decide (z ∈ other))))) ⟨Same.new hD, upd_same⟩ (fun i H' _ q => q.1.seq (.of ha)) ?_ ?_
    · rintro i x H1 _ hi ⟨s1, h3⟩ ⟨rfl, hx⟩
      rw [List.getElem?_map] at hx
      obtain ⟨z, hz, rfl⟩ := Option.map_eq_some_iff.mp hx
      rw [List.length_map] at hi
      refine ⟨rfl, yes_then ?_⟩
      refine ⟨_, rfl, _, rfl, b, _, rfl, .inl (s1.seq (.of hb)), rfl, flat_strs other, _, h3, ?_, s1.mut hD, ?_⟩
      · rw [List.length_map]
        exact Nat.lt_of_le_of_lt (List.length_take_le _ _) (Nat.lt_of_lt_of_le (by omega : i < 4000) (by decide))
      · rw [upd_same, List.take_add_one, hz]
        show some (HO.lst (_ ++ [V.bl (inV (.str z) (other.map V.str))])) = _
        rw [inV_str, List.map_append]
        rfl
    · rintro H1 ⟨s1, h3⟩
      have e : ((one.take (one.map V.str).length).map fun z => V.bl (decide (z ∈ other))) = (one.map fun z => decide (z ∈ other)).map V.bl := by rw [List.length_map, List.take_length, List.map_map]; rfl
      rw [e] at h3
      refine ⟨D, _, rfl, .of h3, ?_⟩
      rw [List.all_map]
      show _
      generalize hW : (one.all (id ∘ fun z => decide (z ∈ other))) = W
      have hW : (one.all fun z => decide (z ∈ other)) = W := hW
      obtain ⟨dx, t, h1, h2, _, few, ok⟩ := id hP
      obtain ⟨dy, u, g1, g2, _, few2, ok2⟩ := id hN
      have okA : ∀ z ∈ one, PyData.strOk z = true := fun z hz => ok z ((m z).mpr hz)
      have okB : ∀ z ∈ other, PyData.strOk z = true := fun z hz => ok2 z ((n z).mpr hz)
      have z1 : Same H H1 := s1
      have fw : ms.length + ns.length < 4000 := by
        have a1 := nodup_le up.nd fun z hz => (m z).mp hz
        have a2 := nodup_le un.nd fun z hz => (n z).mp hz
        omega
      -- [left <= right, left < right]
      refine ⟨_, rfl, _, rfl, p, dx, _, rfl, z1 _ _ h1, T.below (hN.same z1), p, q, ms, ns, rfl, hP.same z1, hN.same z1, fun H2 y2 => ?_⟩
      have z2 := z1.trans y2
      refine ⟨_, rfl, _, rfl, p, dx, _, rfl, z2 _ _ h1, T.below (hN.same z2), p, q, ms, ns, rfl, hP.same z2, hN.same z2, fun H3 y3 => ⟨(by show 2 ≤ sizeLine; decide), fun L1 n1 => ?_⟩⟩
      have z3 := (z2.trans y3).trans (Same.new (o := .lst [.bl (ms.all fun z => decide (z ∈ ns)), .bl ((ms.all fun z => decide (z ∈ ns)) && !decide (ms = ns))]) n1)
      refine ⟨_, rfl, _, rfl, _, rfl, and_then (b := decide (one.length < other.length)) (fun _ Q' q' => ⟨_, rfl, a, _, rfl, .inl (.of (z3 _ _ ha)), _, rfl, b, _, rfl, .inl (.of (z3 _ _ hb)), _, _, rfl, rfl, ?_⟩) ?_⟩
      · have e : decide (((one.map V.str).length : Int) < ((other.map V.str).length : Int)) = decide (one.length < other.length) := by
          rw [List.length_map, List.length_map]
          exact decide_eq_decide.mpr (by omega)
        show Q' (.bl (decide (((one.map V.str).length : Int) < ((other.map V.str).length : Int)))) _
        rw [e]
        exact q'
      refine ⟨(by show 2 ≤ sizeLine; decide), fun L2 n2 => ⟨L1, L2, [ms.all fun z => decide (z ∈ ns), (ms.all fun z => decide (z ∈ ns)) && !decide (ms = ns)], [W, W && decide (one.length < other.length)], rfl, (Same.new n2) _ _ upd_same, upd_same, (by show 2 ≤ 1000; decide), fun H4 y4 => ⟨_, rfl, iteNS ?_ ?_⟩⟩⟩
      · rw [less_eq up un m n d1 d2, within_eq m n, hW]
      have z4 := (z3.trans (Same.new n2)).trans y4
      -- [left == right, left != right]
      refine ⟨_, rfl, _, rfl, p, dx, _, rfl, z4 _ _ h1, T.below (hN.same z4), p, ms, _, _, rfl, hP.same z4, .inl ⟨q, ns, rfl, hN.same z4, rfl⟩, ?_⟩
      refine ⟨_, rfl, _, rfl, p, dx, _, rfl, z4 _ _ h1, T.below (hN.same z4), p, ms, _, _, rfl, hP.same z4, .inl ⟨q, ns, rfl, hN.same z4, rfl⟩, _, rfl, (by show 2 ≤ sizeLine; decide), fun L3 n3 => ?_⟩
      have z5 := z4.trans (Same.new (o := .lst [.bl (decide (ms = ns)), .bl (!decide (ms = ns))]) n3)
      refine ⟨_, rfl, a, one, rfl, .of (z5 _ _ ha), by omega, fun t1 ys1 H5 so1 pm1 e1 y5 => ?_⟩
      have z5' := z5.trans y5
      refine ⟨_, rfl, b, other, rfl, .of (z5' _ _ hb), by omega, fun t2 ys2 H6 so2 pm2 e2 y6 => ?_⟩
      obtain rfl := sorted_is up d1 m so1 pm1
      obtain rfl := sorted_is un d2 n so2 pm2
      have z6 := z5'.trans y6
      refine ⟨_, _, .tup (.of (y6 _ _ e1)) (dpS ys1), .tup (.of e2) (dpS ys2), shT ok, shT ok2, _, rfl, _, rfl, _, _, .lst (.of (z6 _ _ ha)) (dpS one), .lst (.of (z6 _ _ hb)) (dpS other), shL okA, shL okB, (by show 2 ≤ sizeLine; decide), fun L4 n4 => ?_⟩
      refine ⟨L3, L4, [decide (ys1 = ys2), !decide (ys1 = ys2)], [decide (ys1 = ys2), !decide (one = other)], rfl, (Same.new n4) _ _ ((y5.trans y6) _ _ upd_same), ?_, (by show 2 ≤ 1000; decide), fun H7 y7 => ⟨_, rfl, iteNS ?_ ?_⟩⟩
      · rw [upd_same]
        show some (HO.lst [V.bl (PyData.eqvAll _ _), V.bl (!PyData.eqvAll _ _)]) = _
        rw [eqvS, eqvS]
        rfl
      · have e : (ys1 = ys2) ↔ one = other := (sets_eq up un m n).trans ⟨inj, fun e z => by rw [e]⟩
        rw [decide_eq_decide.mpr e]
      have z7 : Same H H7 := (z6.trans (Same.new n4)).trans y7
      -- left & right
      refine ⟨_, rfl, _, rfl, p, dx, _, q, dy, _, rfl, rfl, z7 _ _ h1, z7 _ _ g1, p, q, ys1, ys2, rfl, hP.same z7, hN.same z7, fw, fun r1 rs1 H8 hr1 mr1 y8 => ?_⟩
      have z7 := z7.trans y8
      refine ⟨_, rfl, a, rfl, ⟨_, .of (z7 _ _ ha)⟩, fun D1 hD1 => ?_⟩
      refine lc_it walk_list (fun i H' => Same H8 H' ∧ H' D1 = some (.lst (((one.take i).filter fun z => decide (z ∈ other)).map V.str))) ⟨Same.new hD1, upd_same⟩ (fun i H' _ q => q.1.seq (.of (z7 _ _ ha))) ?_ ?_
      · rintro i x H1 _ hi ⟨s1, h3⟩ ⟨rfl, hx⟩
        rw [List.getElem?_map] at hx
        obtain ⟨z, hz, rfl⟩ := Option.map_eq_some_iff.mp hx
        rw [List.length_map] at hi
        have tk : one.take (i + 1) = one.take i ++ [z] := by rw [List.take_add_one, hz]; rfl
        refine ⟨rfl, _, rfl, _, rfl, b, _, rfl, .inl (s1.seq (.of (z7 _ _ hb))), rfl, flat_strs other, _, rfl, ?_⟩
        show if (inV (.str z) (other.map V.str)) = true then _ else _
        rw [inV_str]
        by_cases c : z ∈ other
        · rw [decide_eq_true c]
          refine iteT ⟨_, rfl, _, h3, ?_, s1.mut hD1, ?_⟩
          · rw [List.length_map]
            exact Nat.lt_of_le_of_lt (Nat.le_trans (List.length_filter_le _ _) (List.length_take_le _ _)) (Nat.lt_of_lt_of_le (by omega : i < 4000) (by decide))
          · rw [upd_same, tk, List.filter_append, List.filter_cons_of_pos (by simp [c]), List.filter_nil, List.map_append]
            rfl
        · rw [decide_eq_false c]
          refine iteF ⟨s1, ?_⟩
          rw [tk, List.filter_append, List.filter_cons_of_neg (by simp [c]), List.filter_nil, List.append_nil]
          exact h3
      rintro H9 ⟨y9, h9⟩
      rw [List.length_map, List.take_length] at h9
      refine ⟨r1, D1, rs1, _, rfl, hr1.same y9, .of h9, Nat.lt_of_le_of_lt (List.length_filter_le _ _) (by omega), d1.filter _, fun z => ?_, fun H9' y9' => ⟨_, rfl, iteF ?_⟩⟩
      · rw [mr1 z]
        show (z ∈ ys1 ∧ z ∈ ys2) ↔ _
        rw [List.mem_filter, m z, n z, decide_eq_true_eq]
      have z9 : Same H H9' := (z7.trans y9).trans y9'
      -- left - right
      refine ⟨_, rfl, _, rfl, p, dx, _, q, dy, _, rfl, rfl, z9 _ _ h1, z9 _ _ g1, p, q, ys1, ys2, rfl, hP.same z9, hN.same z9, fw, fun r2 rs2 HA hr2 mr2 yA => ?_⟩
      have z9 := z9.trans yA
      refine ⟨_, rfl, a, rfl, ⟨_, .of (z9 _ _ ha)⟩, fun D2 hD2 => ?_⟩
      refine lc_it walk_list (fun i H' => Same HA H' ∧ H' D2 = some (.lst (((one.take i).filter fun z => !decide (z ∈ other)).map V.str))) ⟨Same.new hD2, upd_same⟩ (fun i H' _ q => q.1.seq (.of (z9 _ _ ha))) ?_ ?_
      · rintro i x H1 _ hi ⟨s1, h3⟩ ⟨rfl, hx⟩
        rw [List.getElem?_map] at hx
        obtain ⟨z, hz, rfl⟩ := Option.map_eq_some_iff.mp hx
        rw [List.length_map] at hi
        have tk : one.take (i + 1) = one.take i ++ [z] := by rw [List.take_add_one, hz]; rfl
        refine ⟨rfl, _, rfl, _, rfl, b, _, rfl, .inl (s1.seq (.of (z9 _ _ hb))), rfl, flat_strs other, _, rfl, ?_⟩
        show if (!inV (.str z) (other.map V.str)) = true then _ else _
        rw [inV_str]
        by_cases c : z ∈ other
        · rw [decide_eq_true c]
          refine iteF ⟨s1, ?_⟩
          rw [tk, List.filter_append, List.filter_cons_of_neg (by simp [c]), List.filter_nil, List.append_nil]
          exact h3
        · rw [decide_eq_false c]
          refine iteT ⟨_, rfl, _, h3, ?_, s1.mut hD2, ?_⟩
          · rw [List.length_map]
            exact Nat.lt_of_le_of_lt (Nat.le_trans (List.length_filter_le _ _) (List.length_take_le _ _)) (Nat.lt_of_lt_of_le (by omega : i < 4000) (by decide))
          · rw [upd_same, tk, List.filter_append, List.filter_cons_of_pos (by simp [c]), List.filter_nil, List.map_append]
            rfl
      rintro HB ⟨yB, hB⟩
      rw [List.length_map, List.take_length] at hB
      refine ⟨r2, D2, rs2, _, rfl, hr2.same yB, .of hB, Nat.lt_of_le_of_lt (List.length_filter_le _ _) (by omega), d1.filter _, fun z => ?_, fun HB' yB' => ⟨_, rfl, iteF ?_⟩⟩
      · rw [mr2 z]
        show (z ∈ ys1 ∧ z ∉ ys2) ↔ _
        rw [List.mem_filter, m z, n z]
        simp
      have zB : Same H HB' := (z9.trans yB).trans yB'
      -- left | right
      refine ⟨_, rfl, _, rfl, p, dx, _, q, dy, _, rfl, rfl, zB _ _ h1, zB _ _ g1, p, q, ys1, ys2, rfl, hP.same zB, hN.same zB, fw, fun r3 rs3 HC hr3 mr3 yC => ?_⟩
      have zB := zB.trans yC
      refine ⟨_, rfl, _, rfl, b, rfl, ⟨_, .of (zB _ _ hb)⟩, fun D3 hD3 => ?_⟩
      refine lc_it walk_list (fun i H' => Same HC H' ∧ H' D3 = some (.lst (((other.take i).filter fun z => !decide (z ∈ one)).map V.str))) ⟨Same.new hD3, upd_same⟩ (fun i H' _ q => q.1.seq (.of (zB _ _ hb))) ?_ ?_
      · rintro i x H1 _ hi ⟨s1, h3⟩ ⟨rfl, hx⟩
        rw [List.getElem?_map] at hx
        obtain ⟨z, hz, rfl⟩ := Option.map_eq_some_iff.mp hx
        rw [List.length_map] at hi
        have tk : other.take (i + 1) = other.take i ++ [z] := by rw [List.take_add_one, hz]; rfl
        refine ⟨rfl, _, rfl, _, rfl, a, _, rfl, .inl (s1.seq (.of (zB _ _ ha))), rfl, flat_strs one, _, rfl, ?_⟩
        show if (!inV (.str z) (one.map V.str)) = true then _ else _
        rw [inV_str]
        by_cases c : z ∈ one
        · rw [decide_eq_true c]
          refine iteF ⟨s1, ?_⟩
          rw [tk, List.filter_append, List.filter_cons_of_neg (by simp [c]), List.filter_nil, List.append_nil]
          exact h3
        · rw [decide_eq_false c]
          refine iteT ⟨_, rfl, _, h3, ?_, s1.mut hD3, ?_⟩
          · rw [List.length_map]
            exact Nat.lt_of_le_of_lt (Nat.le_trans (List.length_filter_le _ _) (List.length_take_le _ _)) (Nat.lt_of_lt_of_le (by omega : i < 4000) (by decide))
          · rw [upd_same, tk, List.filter_append, List.filter_cons_of_pos (by simp [c]), List.filter_nil, List.map_append]
            rfl
      rintro HD ⟨yD, hD'⟩
      rw [List.length_map, List.take_length] at hD'
      have zD : Same H HD := zB.trans yD
      refine ⟨a, D3, _, _, rfl, rfl, zD _ _ ha, hD', ?_, fun l3 nl3 => ?_⟩
      · rw [List.length_map, List.length_map]
        have q := List.length_filter_le (fun z => !decide (z ∈ one)) other
        exact Nat.le_trans (by omega : _ ≤ 32) (by decide)
      rw [← List.map_append]
      have q := List.length_filter_le (fun z => !decide (z ∈ one)) other
      refine ⟨r3, l3, rs3, one ++ other.filter (fun z => !decide (z ∈ one)), rfl, (hr3.same yD).same (Same.new nl3), .of upd_same, by rw [List.length_append]; omega, ?_, fun z => ?_, fun HE yE => k HE ((zD.trans (Same.new nl3)).trans yE)⟩
      · refine List.nodup_append.mpr ⟨d1, d2.filter _, fun x hx y hy e => ?_⟩
        subst e
        have q := (List.mem_filter.mp hy).2
        simp [hx] at q
      · rw [mr3 z]
        show (z ∈ ys1 ∨ z ∈ ys2) ↔ _
        rw [List.mem_append, List.mem_filter, m z, n z]
        by_cases c : z ∈ one <;> simp [c]
end
end Mf
namespace Mf
open PySem L2
section
variable {P : Program} {w : World} {K : PySem.W.Frag} {mg : Str → Option Value} {base : Heap} {C : Addr}
theorem sub_eq {one other zs : List Str} (nd : zs.Nodup) (s1 : one.Sublist zs) (s2 : other.Sublist zs) (h : ∀ z, z ∈ one ↔ z ∈ other) : one = other := by
  induction zs generalizing one other with
  | nil => rw [List.sublist_nil.mp s1, List.sublist_nil.mp s2]
  | cons x zs ih =>
    obtain ⟨n1, n2⟩ := List.nodup_cons.mp nd
    cases s1 with
    | cons _ s1 =>
      cases s2 with
      | cons _ s2 => exact ih n2 s1 s2 h
      | cons_cons _ s2 => exact absurd (s1.subset ((h x).mpr List.mem_cons_self)) n1
    | cons_cons _ s1 =>
      cases s2 with
      | cons _ s2 => exact absurd (s2.subset ((h x).mp List.mem_cons_self)) n1
      | cons_cons _ s2 =>
        rename_i l1 l2
        rw [ih n2 s1 s2 fun z => ?_]
        constructor
        · intro m
          rcases List.mem_cons.mp ((h z).mp (List.mem_cons_of_mem _ m)) with e | q
          · subst e; exact absurd (s1.subset m) n1
          · exact q
        · intro m
          rcases List.mem_cons.mp ((h z).mpr (List.mem_cons_of_mem _ m)) with e | q
          · subst e; exact absurd (s2.subset m) n1
          · exact q
structure NsAll (P : Program) (w : World) (K : PySem.W.Frag) (mg : Str → Option Value) (base : Heap) (C : Addr) : Prop where
  T : NsC K mg C
  O : NsOps P w K mg base C
  mk1 : CalN P w K mg base C []
  mk0 : ∃ t : Addr, CalN P w K mg base C [.ref t] ∧ (∃ o, K.lookup t = some o ∧ o.cls = .type "tuple") ∧ ∀ H, SqT K H t []
abbrev sLaw : Stmt := top 13
theorem scLaw : FnScope ["_law_script", "_law_source_here", "_law_stock", "_law_kept", "_law_again", "_law_name_here", "_law_one", "_law_other", "_law_first", "_law_second", "_law_left", "_law_right"] ["_law_script"] (defScope sLaw) := ⟨rfl, rfl, rfl, by decide +kernel, rfl, by decide +kernel, by decide +kernel⟩
set_option maxHeartbeats 2000000 in
theorem ok_law {f : Addr} {fd : FuncData} (F : Fun K "law" "law" sLaw f fd) (A : NsAll P w K mg base C) (mList : mg "list" = none) (c_source : Cal P w K mg base CX0 1 "_law_source" ["_law_script"] (spSource K)) (c_draw : Cal P w K mg base CX0 1 "_law_draw" psD spDraw)
    (c_names : Cal P w K mg base CX0 3 "_law_names" ["_law_source_here", "_law_many"] spNames) (c_subset : Cal P w K mg base CX0 2 "_law_subset" ["_law_source_here", "_law_row"] (spSubset K)) (c_mixed : Cal P w K mg base CX0 2 "_law_mixed" ["_law_source_here", "_law_row"] (spMixed K))
    (c_sorted : Cal P w K mg base CX0 1 "_law_sorted" ["_law_names_here"] (spSorted K)) (c_truths : Cal P w K mg base CX0 1 "_law_truths" ["_law_found", "_law_due"] spTruths) (c_is : Cal P w K mg base CX0 2 "_law_is" ["_law_found", "_law_due"] (spIs K C))
    (c_pair : Cal P w K mg base CX0 4 "_law_pair" ["_law_left", "_law_right", "_law_one", "_law_other"] (spPair K C)) : FnOk P w K mg base CX0 5 f fd ["_law_script"] (spLaw K) := by
  refine F.ok scLaw (fun vs H Q E h => ?_) (fun cdv A' outer s H vs Q E hr h => ?_)
  · obtain ⟨a, ns, rfl, _⟩ := h
    rfl
  · obtain ⟨a, ns, rfl, hs, hl, k⟩ := h
    obtain ⟨T, O, mk, t0, mk0, ⟨o0, e0, c0⟩, q0⟩ := A
    have mTuple := T.mTuple; have mLen := T.mLen
    have hr_source : Room 1 _ := hr.mono (by decide : 1 ≤ 4); have hr_draw := hr_source; have hr_sorted := hr_source; have hr_truths := hr_source
    have hr_subset : Room 2 _ := hr.mono (by decide : 2 ≤ 4); have hr_mixed := hr_subset; have hr_is := hr_subset
    have hr_names : Room 3 _ := hr.mono (by decide : 3 ≤ 4); have hr_pair := hr
    refine ⟨_, (pss_cons (ps_set (i := 1) scLaw.nd rfl (by first | exact Or.inl rfl | exact Or.inr rfl) (pe_cal c_source hr_source pass0 (pa_cons (pv 0) pa_nil)))
      (pss_cons (ps_set (i := 2) scLaw.nd rfl (by first | exact Or.inl rfl | exact Or.inr rfl) (pe_cal c_names hr_names pass0 (pa_cons (pv 1) (pa_cons pe_int pa_nil))))
      (pss_cons (ps_asg (pe_tup (pa_cons (pe_cal c_subset hr_subset pass0 (pa_cons (pv 1) (pa_cons (pv 2) pa_nil))) (pa_cons (pe_cal c_subset hr_subset pass0 (pa_cons (pv 1) (pa_cons (pv 2) pa_nil))) pa_nil))) (pg_tup rfl (pgs_cons (pg_name (i := 6) scLaw.nd rfl (by first | exact Or.inl rfl | exact Or.inr rfl)) (pgs_cons (pg_name (i := 7) scLaw.nd rfl (by first | exact Or.inl rfl | exact Or.inr rfl)) pgs_nil))))
      (C8.pss_cut (ps_if (pt_cmpR op_eq (pe_cal c_draw hr_draw pass0 (pa_cons (pv 1) (pa_cons pe_int pa_nil))) pe_int (nomark _))
        (pss_one (ps_set (i := 7) scLaw.nd rfl (by first | exact Or.inl rfl | exact Or.inr rfl) (pe_lc (own := [("_law_name_here", 5)]) (g := (gName 5)) rfl scLaw.nd (pi_list (pv 2)) (blkOk_by (own := [("_law_name_here", 5)]) (N := ["_law_script", "_law_source_here", "_law_stock", "_law_kept", "_law_again", "_law_name_here", "_law_one", "_law_other", "_law_first", "_law_second", "_law_left", "_law_right"]) (sc := defScope sLaw) (by decide +kernel)) (fun _ _ _ _ _ => (pg_name (i := 5) scLaw.nd rfl (by first | exact Or.inl rfl | exact Or.inr rfl))) (fun _ _ _ _ _ => pts_one (PW.pt (pw_or (pt_cmpR (oin K) (pv 5) (pv 6) (by rfl)) (pw_or1 (pt_cmpR (oin K) (pv 5) (pv 7) (by rfl)))))) (fun _ _ _ _ _ => (pv 5))))) pss_nil)
      (pss_cons (ps_par (i := 8) (j := 9) (by rfl) scLaw.nd rfl rfl (by decide) rfl rfl (pa_cons (pe_cal c_mixed hr_mixed pass0 (pa_cons (pv 1) (pa_cons (pv 6) pa_nil))) (pa_cons (pe_cal c_mixed hr_mixed pass0 (pa_cons (pv 1) (pa_cons (pv 7) pa_nil))) pa_nil)) (by rfl))
      (pss_cons (ps_set (i := 3) scLaw.nd rfl (by first | exact Or.inl rfl | exact Or.inr rfl) (pe_callTy (k_list K) (by rfl) mList (by decide +kernel) (pa_cons (pv 8) pa_nil)))
      (pss_cons (ps_par (i := 10) (j := 11) (by rfl) scLaw.nd rfl rfl (by decide) rfl rfl (pa_cons (pe_mkc mk hr_is pass0 (pa_cons (pv 8) pa_nil)) (pa_cons (pe_mkc mk hr_is pass0 (pa_cons (pe_callTy (k_tuple K) (by rfl) mTuple (by decide +kernel) (pa_cons (pv 9) pa_nil)) pa_nil)) pa_nil)) (by rfl))
      (pss_cons (ps_if (pt_cmpR (neD K hr) (pv 8) (pv 3) (nomark _))
        (pss_one (ps_ret pe_bl)) pss_nil)
      (pss_cons (ps_expr (pe_bm0 PySem.F.plainAttrs_list PySem.F.slot_list_clear PySem.F.type_list_clear mt_clear (pv 8)))
      (pss_cons (ps_set (i := 4) scLaw.nd rfl (by first | exact Or.inl rfl | exact Or.inr rfl) (pe_mkc mk hr_is pass0 (pa_cons (pv 10) pa_nil)))
      (pss_cons (ps_if (PW.pt (pw_or (pt_not (pt_val (pe_cal c_is hr_is pass0 (pa_cons (pv 10) (pa_cons (pv 6) pa_nil))))) (pw_or (pt_not (pt_val (pe_cal c_is hr_is pass0 (pa_cons (pv 4) (pa_cons (pv 6) pa_nil))))) (pw_or (pt_not (pt_val (pe_cal c_is hr_is pass0 (pa_cons (pv 11) (pa_cons (pv 7) pa_nil))))) (pw_or1 (pt_not (pt_val (pe_cal c_is hr_is pass0 (pa_cons (pe_mkc0 mk0 hr_is pass0 ) (pa_cons (pe_lst pa_nil) pa_nil))))))))))
        (pss_one (ps_ret pe_bl)) pss_nil)
      (pss_cons (ps_for PassesOwn.never rfl (pi_list (pe_op op_cat (pv 2) (pe_lst (pa_cons pe_str (pa_cons pe_str pa_nil))))) (pg_name (i := 5) scLaw.nd rfl (by first | exact Or.inl rfl | exact Or.inr rfl))
        (pss_one (ps_if (pt_not (pt_val (pe_cal c_truths hr_truths pass0 (pa_cons (pe_lst (pa_cons (pe_cmpR (om_in O.has hr_draw pass0) (pv 5) (pv 10) (by rfl)) (pa_cons (pe_cmpR (om_in O.has hr_draw pass0) (pv 5) (pv 11) (by rfl)) pa_nil))) (pa_cons (pe_lst (pa_cons (pe_cmpR (oin K) (pv 5) (pv 6) (by rfl)) (pa_cons (pe_cmpR (oin K) (pv 5) (pv 7) (by rfl)) pa_nil))) pa_nil)))))
          (pss_one (ps_ret pe_bl)) pss_nil)))
      (pss_cons (ps_if (PW.pt (pw_or (pt_cmpR op_ne (pe_callB (om_len O.len hr_is pass0) (by rfl) mLen (by decide +kernel) (pa_cons (pv 10) pa_nil)) (pe_callB (k_len K) (by rfl) mLen (by decide +kernel) (pa_cons (pv 6) pa_nil)) (nomark _)) (pw_or (pt_cmpR op_ne (pe_callB (om_len O.len hr_is pass0) (by rfl) mLen (by decide +kernel) (pa_cons (pe_mkc mk hr_is pass0 (pa_cons (pe_lst pa_nil) pa_nil)) pa_nil)) pe_int (nomark _)) (pw_or1 (pt_not (pt_val (pe_cal c_truths hr_truths pass0 (pa_cons (pe_lst (pa_cons (pe_cmpR (om_cmp (op := .Eq) K O.eq hr_draw pass0) (pv 10) (pe_cal c_sorted hr_sorted pass0 (pa_cons (pv 6) pa_nil)) (nomark _)) pa_nil)) (pa_cons (pe_lst (pa_cons pe_bl pa_nil)) pa_nil)))))))))
        (pss_one (ps_ret pe_bl)) pss_nil)
      (pss_cons (ps_if (PW.pt (pw_or (pt_not (pt_val (pe_cal c_pair hr_pair pass0 (pa_cons (pv 10) (pa_cons (pv 11) (pa_cons (pv 6) (pa_cons (pv 7) pa_nil))))))) (pw_or1 (pt_not (pt_val (pe_cal c_pair hr_pair pass0 (pa_cons (pv 11) (pa_cons (pv 10) (pa_cons (pv 7) (pa_cons (pv 6) pa_nil))))))))))
        (pss_one (ps_ret pe_bl)) pss_nil)
      (pss_one (ps_ret (pe_and (pe_cal c_pair hr_pair pass0 (pa_cons (pv 10) (pa_cons (pv 4) (pa_cons (pv 6) (pa_cons (pv 6) pa_nil))))) (pe_and (pe_cal c_pair hr_pair pass0 (pa_cons (pe_mkc0 mk0 hr_is pass0 ) (pa_cons (pv 11) (pa_cons (pe_lst pa_nil) (pa_cons (pv 7) pa_nil))))) (pe_one (pe_cal c_is hr_is pass0 (pa_cons (pv 10) (pa_cons (pv 6) pa_nil)))))))))))))))))))))), ?_⟩
    refine ⟨_, rfl, a, ns, rfl, hs, hl, fun g H1 _ s1 S1 => ?_⟩
    refine ⟨_, rfl, g, 8, 900000000, rfl, by decide, S1.mono (by decide), fun st zs H2 len nd nm nst h2 k2 S2 => ?_⟩
    have sg : st ≠ g := S1.ne nst
    refine ⟨_, rfl, _, rfl, g, st, zs, 800000000, rfl, sg, .of h2, by omega, S2.mono (by omega), fun p1 one H3 b1 np1 h3 k3 S3 => ?_⟩
    have p1g : p1 ≠ g := S2.ne np1
    refine ⟨_, rfl, _, rfl, g, st, zs, 700000000, rfl, sg, .of (k3 _ _ sg h2), by omega, S3.mono (by omega), fun p2 oth H4 b2 np2 h4 k4 S4 => ?_⟩
    have p2g : p2 ≠ g := S3.ne np2
    refine ⟨(by show 2 ≤ sizeLine; decide), fun tt ntt => ⟨tt, _, rfl, .of upd_same, rfl, _, _, rfl, _, _, rfl, rfl, ?_⟩⟩
    have h2' := (Same.new (o := .tup [.ref p1, .ref p2]) ntt) _ _ (k4 _ _ sg (k3 _ _ sg h2))
    have h3' := (Same.new (o := .tup [.ref p1, .ref p2]) ntt) _ _ (k4 _ _ p1g h3)
    have h4' := (Same.new (o := .tup [.ref p1, .ref p2]) ntt) _ _ h4
    have S4' := S4.new (o := .tup [.ref p1, .ref p2]) ntt
    generalize upd H4 tt (.tup [.ref p1, .ref p2]) = H5 at h2' h3' h4' S4'
    -- the draw that makes the one a part of the other
    refine ⟨fun σ' H' => ∃ (p2 : Addr) (oth : List Str) (vk : Option V), σ' = [some (.ref a), some (.ref g), some (.ref st), none, none, vk, some (.ref p1), some (.ref p2), none, none, none, none] ∧ oth.Sublist zs ∧ p2 ≠ g ∧ H' st = some (.lst (zs.map V.str)) ∧ H' p1 = some (.lst (one.map V.str)) ∧ H' p2 = some (.lst (oth.map V.str)) ∧ Src H' g 600000000, ?_, ?_⟩
    · refine ⟨_, rfl, g, 3, 600000000, rfl, by decide, by decide, S4'.mono (by decide), fun v H6 v0 v1 k6 S6 => ⟨rfl, _, rfl, ite2 (fun _ => ?_) fun _ => ?_⟩⟩
      · have g2 := k6 _ _ sg h2'; have g3 := k6 _ _ p1g h3'; have g4 := k6 _ _ p2g h4'
        refine ⟨_, rfl, st, rfl, ⟨_, .of g2⟩, fun D hD => ?_⟩
        refine lc_it walk_list (fun i H' => Same H6 H' ∧ H' D = some (.lst (((zs.take i).filter fun z => decide (z ∈ one) || decide (z ∈ oth)).map V.str))) ⟨Same.new hD, upd_same⟩ (fun i H' _ q => .of (q.1 _ _ g2)) ?_ ?_
        · rintro i x H1 _ hi ⟨s1, h3⟩ ⟨rfl, hx⟩
          rw [List.getElem?_map] at hx
          obtain ⟨z, hz, rfl⟩ := Option.map_eq_some_iff.mp hx
          rw [List.length_map] at hi
          have tk : zs.take (i + 1) = zs.take i ++ [z] := by rw [List.take_add_one, hz]; rfl
          have few : (((zs.take i).filter fun z => decide (z ∈ one) || decide (z ∈ oth)).map V.str).length < sizeLine := by
            rw [List.length_map]
            exact Nat.lt_of_le_of_lt (Nat.le_trans (List.length_filter_le _ _) (List.length_take_le _ _)) (Nat.lt_of_lt_of_le (by omega : i < 4000) (by decide))
          refine ⟨rfl, _, rfl, _, rfl, p1, _, rfl, .inl (.of (s1 _ _ g3)), rfl, flat_strs one, _, rfl, ?_⟩
          show if inV (.str z) (one.map V.str) = true then _ else _
          rw [inV_str]
          by_cases c1 : z ∈ one
          · rw [decide_eq_true c1]
            refine iteT ?_
            refine iteT ⟨_, rfl, _, h3, few, s1.mut hD, ?_⟩
            rw [upd_same, tk, List.filter_append, List.filter_cons_of_pos (by simp [c1]), List.filter_nil, List.map_append]
            rfl
          · rw [decide_eq_false c1]
            refine iteF ⟨_, rfl, _, rfl, p2, _, rfl, .inl (.of (s1 _ _ g4)), rfl, flat_strs oth, _, rfl, ?_⟩
            show if inV (.str z) (oth.map V.str) = true then _ else _
            rw [inV_str]
            by_cases c2 : z ∈ oth
            · rw [decide_eq_true c2]
              refine iteT ⟨_, rfl, _, h3, few, s1.mut hD, ?_⟩
              rw [upd_same, tk, List.filter_append, List.filter_cons_of_pos (by simp [c2]), List.filter_nil, List.map_append]
              rfl
            · rw [decide_eq_false c2]
              refine iteF ⟨s1, ?_⟩
              rw [tk, List.filter_append, List.filter_cons_of_neg (by simp [c1, c2]), List.filter_nil, List.append_nil]
              exact h3
        · rintro H1 ⟨s1, h3⟩
          rw [List.length_map, List.take_length] at h3
          exact ⟨D, _, none, rfl, List.filter_sublist, S6.ne hD, s1 _ _ g2, s1 _ _ g3, h3, S6.same s1⟩
      · exact ⟨p2, oth, none, rfl, b2, p2g, k6 _ _ sg h2', k6 _ _ p1g h3', k6 _ _ p2g h4', S6⟩
    · rintro σ' H6 ⟨p2, oth, vk, rfl, b2, p2g, h2, h3, h4, S6⟩
      have l1 : one.length ≤ 8 := by have := b1.length_le; omega
      have l2 : oth.length ≤ 8 := by have := b2.length_le; omega
      have d1 : one.Nodup := b1.nodup nd
      have d2 : oth.Nodup := b2.nodup nd
      have okA : ∀ z ∈ one, PyData.strOk z = true := fun z hz => (nm z (b1.subset hz)).ok
      have okB : ∀ z ∈ oth, PyData.strOk z = true := fun z hz => (nm z (b2.subset hz)).ok
      refine ⟨_, rfl, _, rfl, g, p1, one, 500000000, rfl, p1g, .of h3, by omega, S6.mono (by omega), fun q1 ys1 H7 m1 y1 nq1 h5 k7 S7 => ?_⟩
      have q1g : q1 ≠ g := S6.ne nq1
      have n1 : q1 ≠ st := ne_none nq1 h2
      have n2 : q1 ≠ p1 := ne_none nq1 h3
      have n3 : q1 ≠ p2 := ne_none nq1 h4
      refine ⟨_, rfl, _, rfl, g, p2, oth, 400000000, rfl, p2g, .of (k7 _ _ p2g h4), by omega, S7.mono (by omega), fun q2 ys2 H8 m2 y2 nq2 h6 k8 S8 => ⟨_, _, rfl, ?_⟩⟩
      have q2g : q2 ≠ g := S7.ne nq2
      have n4 : q1 ≠ q2 := Ne.symm (ne_none nq2 h5)
      have h2 := k8 _ _ sg (k7 _ _ sg h2)
      have h3 := k8 _ _ p1g (k7 _ _ p1g h3)
      have h4 := k8 _ _ p2g (k7 _ _ p2g h4)
      have h5 := k8 _ _ q1g h5
      -- kept, left, right
      refine ⟨_, rfl, q1, _, rfl, .inl (.of h5), fun q3 nq3 => ?_⟩
      have e1 := Same.new (o := .lst (ys1.map V.str)) nq3
      have n5 : q1 ≠ q3 := Ne.symm (ne_none nq3 h5)
      have okY : ∀ z ∈ ys1, PyData.strOk z = true := fun z hz => okA z ((m1 z).mp hz)
      have okZ : ∀ z ∈ ys2, PyData.strOk z = true := fun z hz => okB z ((m2 z).mp hz)
      refine ⟨_, rfl, ?_⟩
      intro L dxL nL hdL _
      have fewL : ys1.length < 4000 := by omega
      have okL := okY
      refine ⟨L, dxL, _, _, rfl, upd_same, ArgS.same (.lst (e1 _ _ h5)) (ns_grow nL hdL), fewL, fun tL ms H9 upL mL g1L g2L kpL => ⟨rfl, ?_⟩⟩
      obtain ⟨hL, e2⟩ := ns_after fewL okL nL hdL upL mL g1L g2L kpL
      have e3 := e1.trans e2
      refine ⟨_, rfl, q2, _, rfl, .inl ⟨.of (e3 _ _ h6), fun u nu => ?_⟩⟩
      intro R dxR nR hdR _
      have fewR : ys2.length < 4000 := by omega
      have okR := okZ
      refine ⟨R, dxR, _, _, rfl, upd_same, ArgS.same (.tup upd_same) (ns_grow nR hdR), fewR, fun tR ns' HA upR mR g1R g2R kpR => ⟨rfl, ?_⟩⟩
      obtain ⟨hR, e4⟩ := ns_after fewR okR nR hdR upR mR g1R g2R kpR
      refine ⟨_, _, rfl, ?_⟩
      have e5 : Same H8 HA := (e3.trans (Same.new nu)).trans e4
      have hL : NSet C HA L ms := (hL.same (Same.new nu)).same e4
      have mL : ∀ z, z ∈ ms ↔ z ∈ one := fun z => (mL z).trans (m1 z)
      have mR : ∀ z, z ∈ ns' ↔ z ∈ oth := fun z => (mR z).trans (m2 z)
      have h7 : HA q3 = some (.lst (ys1.map V.str)) := e4 _ _ ((Same.new nu) _ _ (e2 _ _ upd_same))
      refine ⟨_, rfl, _, rfl, _, _, .lst (.of (e5 _ _ h5)) (dpS ys1), .lst (.of h7) (dpS ys1), shL okY, shL okY, _, rfl, ?_⟩
      show if (!PyData.eqvAll _ _) = true then _ else _
      rw [eqvS]
      refine iteNS rfl ?_
      -- first.clear()
      refine ⟨_, rfl, .inl ⟨rfl, _, .of (e5 _ _ h5)⟩, q1, _, rfl, rfl, e5 _ _ h5, ?_⟩
      have but : ∀ b o, b ≠ q1 → HA b = some o → upd HA q1 (.lst []) b = some o := fun b o n e => by rw [upd_ne n]; exact e
      have keepN : ∀ {p : Addr} {xs : List Str}, NSet C HA p xs → NSet C (upd HA q1 (.lst [])) p xs := fun ⟨dx, t, x, y, c⟩ =>
        ⟨dx, t, but _ _ (ne_of x (e5 _ _ h5) (by intro z; cases z)) x, but _ _ (ne_of y (e5 _ _ h5) (by intro z; cases z)) y, c⟩
      have hL := keepN hL
      have hR := keepN hR
      have h2 := but _ _ (Ne.symm n1) (e5 _ _ h2)
      have h3 := but _ _ (Ne.symm n2) (e5 _ _ h3)
      have h4 := but _ _ (Ne.symm n3) (e5 _ _ h4)
      generalize upd HA q1 (.lst []) = HB at hL hR h2 h3 h4
      clear but keepN
      -- again
      refine ⟨_, rfl, ?_⟩
      intro G dxG nG hdG _
      have fewG := hL.choose_spec.choose_spec.2.2.2.1
      have okG := hL.choose_spec.choose_spec.2.2.2.2
      refine ⟨G, dxG, _, _, rfl, upd_same, ArgS.same (.own hL) (ns_grow nG hdG), fewG, fun tG gs HC upG mG g1G g2G kpG => ⟨rfl, ?_⟩⟩
      obtain ⟨hG, e6⟩ := ns_after fewG okG nG hdG upG mG g1G g2G kpG
      have mG : ∀ z, z ∈ gs ↔ z ∈ one := fun z => (mG z).trans (mL z)
      -- the four looks
      refine ⟨_, rfl, _, rfl, L, p1, ms, one, rfl, hL.same e6, .of (e6 _ _ h3), by omega, d1, mL, fun HD e7 => ⟨_, rfl, iteF ?_⟩⟩
      have e8 := e6.trans e7
      refine ⟨_, rfl, _, rfl, G, p1, gs, one, rfl, hG.same e7, .of (e8 _ _ h3), by omega, d1, mG, fun HE e9 => ⟨_, rfl, iteF ?_⟩⟩
      have f1 := e8.trans e9
      refine ⟨_, rfl, _, rfl, R, p2, ns', oth, rfl, hR.same f1, .of (f1 _ _ h4), by omega, d2, mR, fun HF f2 => ⟨_, rfl, iteF ?_⟩⟩
      have f3 := f1.trans f2
      intro Z dxZ nZ hdZ _
      have fewZ : ([] : List Str).length < 4000 := by decide
      have okZ : ∀ z ∈ ([] : List Str), PyData.strOk z = true := by simp
      refine ⟨Z, dxZ, _, _, rfl, upd_same, ArgS.same (.emp e0 c0 q0) (ns_grow nZ hdZ), fewZ, fun tZ zz HG upZ mZ g1Z g2Z kpZ => ⟨rfl, ?_⟩⟩
      obtain ⟨hZ, f4⟩ := ns_after fewZ okZ nZ hdZ upZ mZ g1Z g2Z kpZ
      refine ⟨(by show 0 ≤ sizeLine; decide), fun lz nlz => ?_⟩
      refine ⟨Z, lz, zz, [], rfl, hZ.same (Same.new nlz), .of upd_same, by decide, List.nodup_nil, mZ, fun HI f5 => ⟨_, rfl, iteF ?_⟩⟩
      have f6 : Same HB HI := ((((e6.trans e7).trans e9).trans f2).trans f4).trans ((Same.new nlz).trans f5)
      have hL := hL.same f6
      have hR := hR.same f6
      have hG : NSet C HI G gs := hG.same ((((e7.trans e9).trans f2).trans f4).trans ((Same.new nlz).trans f5))
      have h2 := f6 _ _ h2
      have h3 := f6 _ _ h3
      have h4 := f6 _ _ h4
      clear f6 f5 f4 f3 f2 f1 e9 e8 e7 e6
      -- for name in stock + ["", "longername"]
      have okS : ∀ z ∈ zs ++ [("" : Str), ("longername" : Str)], z.length < 100 := fun z hz => by
        rcases List.mem_append.mp hz with q | q
        · exact Nat.lt_of_le_of_lt (nm z q).len (by decide)
        · have all : ∀ z ∈ [("" : Str), ("longername" : Str)], z.length < 100 := by decide +kernel
          exact all z q
      refine ⟨_, rfl, (by show 2 ≤ sizeLine; decide), fun l5 nl5 => ⟨st, l5, _, _, rfl, rfl, (Same.new nl5) _ _ h2, upd_same, ?_, fun l6 nl6 => ?_⟩⟩
      · rw [List.length_map]; exact Nat.le_trans (by show zs.length + 2 ≤ 10; omega) (by decide)
      have e7 : (zs.map V.str ++ [V.str "", V.str "longername"]) = (zs ++ [("" : Str), ("longername" : Str)]).map V.str := by rw [List.map_append]; rfl
      rw [e7]
      refine ⟨l6, rfl, ⟨_, .of upd_same⟩, ?_⟩
      generalize hws : zs ++ [("" : Str), ("longername" : Str)] = ws
      have lws : ws.length = 10 := by rw [← hws, List.length_append, len]; rfl
      have g6 : Same HI (upd (upd HI l5 (.lst [.str "", .str "longername"])) l6 (.lst (ws.map V.str))) := (Same.new nl5).trans (Same.new nl6)
      have h6' : (upd (upd HI l5 (.lst [.str "", .str "longername"])) l6 (.lst (ws.map V.str))) l6 = some (.lst (ws.map V.str)) := upd_same
      generalize upd (upd HI l5 (.lst [.str "", .str "longername"])) l6 (.lst (ws.map V.str)) = HJ at g6 h6'
      have hL := hL.same g6
      have hR := hR.same g6
      have hG := hG.same g6
      have h3 := g6 _ _ h3
      have h4 := g6 _ _ h4
      obtain ⟨dL, tL, hL1, hL2, upL, fewL', okL'⟩ := id hL
      obtain ⟨dR, tR, hR1, hR2, upR, fewR', okR'⟩ := id hR
      refine for_it walk_list (fun i σ H' => ∃ vk : Option V, σ = [some (.ref a), some (.ref g), some (.ref st), some (.ref q3), some (.ref G), vk, some (.ref p1), some (.ref p2), some (.ref q1), some (.ref q2), some (.ref L), some (.ref R)] ∧ Same HJ H') ⟨vk, rfl, Same.refl HJ⟩ (fun i σ H' _ q => .of (q.choose_spec.2 _ _ h6')) ?_ ?_
      · rintro i x σ H1 _ hi ⟨vk, rfl, s1⟩ ⟨rfl, hx⟩
        rw [List.getElem?_map] at hx
        obtain ⟨z, hz, rfl⟩ := Option.map_eq_some_iff.mp hx
        refine ⟨_, rfl, _, rfl, L, dL, _, rfl, s1 _ _ hL1, L, ms, z, rfl, hL.same s1, _, rfl, ?_⟩
        refine ⟨_, rfl, _, rfl, R, dR, _, rfl, s1 _ _ hR1, R, ns', z, rfl, hR.same s1, _, rfl, (by show 2 ≤ sizeLine; decide), fun l7 nl7 => ?_⟩
        have s2 := s1.trans (Same.new (o := .lst [.bl (decide (z ∈ ms)), .bl (decide (z ∈ ns'))]) nl7)
        refine ⟨_, rfl, _, rfl, p1, _, rfl, .inl (.of (s2 _ _ h3)), rfl, flat_strs one, ?_⟩
        refine ⟨_, rfl, _, rfl, p2, _, rfl, .inl (.of (s2 _ _ h4)), rfl, flat_strs oth, (by show 2 ≤ sizeLine; decide), fun l8 nl8 => ?_⟩
        refine ⟨l7, l8, [decide (z ∈ ms), decide (z ∈ ns')], [decide (z ∈ one), decide (z ∈ oth)], rfl, (Same.new nl8) _ _ upd_same, ?_, (by show 2 ≤ 1000; decide), fun H2 s3 => ⟨_, rfl, iteNS ?_ ?_⟩⟩
        · rw [upd_same]
          show some (HO.lst [V.bl (inV (.str z) (one.map V.str)), V.bl (inV (.str z) (oth.map V.str))]) = _
          rw [inV_str, inV_str]
          rfl
        · rw [decide_eq_decide.mpr (mL z), decide_eq_decide.mpr (mR z)]
        · exact ⟨_, rfl, (s2.trans (Same.new nl8)).trans s3⟩
      · rintro σ HK ⟨vk, rfl, s1⟩
        -- the lengths, and no tuple of names
        have lenL : ms.length = one.length := Nat.le_antisymm (nodup_le upL.nd fun z hz => (mL z).mp hz) (nodup_le d1 fun z hz => (mL z).mpr hz)
        refine ⟨_, rfl, L, dL, _, rfl, s1 _ _ hL1, L, ms, rfl, hL.same s1, ms.length, rfl, Nat.lt_trans fewL' (by decide), ?_⟩
        refine ⟨_, rfl, p1, _, rfl, .inl (.of (s1 _ _ h3)), rfl, _, rfl, iteNS ?_ ?_⟩
        · rw [List.length_map, lenL]
        refine ⟨(by show 0 ≤ sizeLine; decide), fun l9 nl9 => ?_⟩
        intro Y dxY nY hdY _
        have fewY : ([] : List Str).length < 4000 := by decide
        have okY : ∀ z ∈ ([] : List Str), PyData.strOk z = true := by simp
        refine ⟨Y, dxY, _, _, rfl, upd_same, ArgS.same (.lst upd_same) (ns_grow nY hdY), fewY, fun tY yy HM upY mY g1Y g2Y kpY => ⟨rfl, ?_⟩⟩
        obtain ⟨hY, s9⟩ := ns_after fewY okY nY hdY upY mY g1Y g2Y kpY
        obtain ⟨dY, tY, hY1, _⟩ := id hY
        have yy0 : yy = [] := List.eq_nil_iff_forall_not_mem.mpr fun z hz => by simpa using (mY z).mp hz
        refine ⟨Y, dY, _, rfl, hY1, Y, yy, rfl, hY, yy.length, rfl, by rw [yy0]; decide, rfl, _, rfl, iteNS (by rw [yy0]; rfl) ?_⟩
        have s2 : Same HJ HM := (s1.trans (Same.new nl9)).trans s9
        refine ⟨_, rfl, _, rfl, p1, one, rfl, .of (s2 _ _ h3), by omega, fun t5 ys5 HN so5 pm5 ht5 s5 => ?_⟩
        have s3 := s2.trans s5
        refine ⟨L, dL, _, rfl, s3 _ _ hL1, ⟨_, .base (.tup ht5), T.bT⟩, L, ms, _, _, rfl, hL.same s3, .inr ⟨_, .base (.tup ht5), T.kT, rfl⟩, (by show 1 ≤ sizeLine; decide), fun la nla => ⟨(by show 1 ≤ sizeLine; decide), fun lb nlb => ?_⟩⟩
        refine ⟨la, lb, [false], [false], rfl, (Same.new nlb) _ _ upd_same, upd_same, (by show 1 ≤ 1000; decide), fun HO s6 => ⟨_, rfl, iteF ?_⟩⟩
        have s7 : Same HJ HO := ((s3.trans (Same.new nla)).trans (Same.new nlb)).trans s6
        -- the pairs
        refine ⟨_, rfl, _, rfl, _, rfl, _, rfl, L, R, p1, p2, ms, ns', one, oth, rfl, hL.same s7, hR.same s7, s7 _ _ h3, s7 _ _ h4, by omega, by omega, d1, d2, mL, mR, sub_eq nd b1 b2, fun HP s8 => ⟨_, rfl, iteF ?_⟩⟩
        have s8 := s7.trans s8
        refine ⟨_, rfl, _, rfl, _, rfl, _, rfl, R, L, p2, p1, ns', ms, oth, one, rfl, hR.same s8, hL.same s8, s8 _ _ h4, s8 _ _ h3, by omega, by omega, d2, d1, mR, mL, sub_eq nd b2 b1, fun HQ s9 => ⟨_, rfl, iteF ?_⟩⟩
        have s9 := s8.trans s9
        refine ⟨_, rfl, _, rfl, _, rfl, _, rfl, L, G, p1, p1, ms, gs, one, one, rfl, hL.same s9, hG.same s9, s9 _ _ h3, s9 _ _ h3, by omega, by omega, d1, d1, mL, mG, fun _ => rfl, fun HR sA => ⟨_, rfl, iteT ?_⟩⟩
        have sA := s9.trans sA
        intro X dxX nX hdX _
        have fewX : ([] : List Str).length < 4000 := by decide
        have okX : ∀ z ∈ ([] : List Str), PyData.strOk z = true := by simp
        refine ⟨X, dxX, _, _, rfl, upd_same, ArgS.same (.emp e0 c0 q0) (ns_grow nX hdX), fewX, fun tX xx HS upX mX g1X g2X kpX => ⟨rfl, ?_⟩⟩
        obtain ⟨hX, sB⟩ := ns_after fewX okX nX hdX upX mX g1X g2X kpX
        have sB := sA.trans sB
        refine ⟨_, rfl, (by show 0 ≤ sizeLine; decide), fun lc nlc => ⟨_, rfl, X, R, lc, p2, xx, ns', [], oth, rfl, hX.same (Same.new nlc), (hR.same sB).same (Same.new nlc), upd_same, (Same.new nlc) _ _ (sB _ _ h4), by decide, by omega, List.nodup_nil, d2, mX, mR, fun e => ?_, fun HT sC => ⟨_, rfl, iteT ?_⟩⟩⟩
        · exact (List.eq_nil_iff_forall_not_mem.mpr fun z hz => by simpa using (e z).mpr hz).symm
        have sC := (sB.trans (Same.new nlc)).trans sC
        exact ⟨_, rfl, _, rfl, L, p1, ms, one, rfl, hL.same sC, .of (sC _ _ h3), by omega, d1, mL, fun HU _ => k HU⟩
end
end Mf
namespace Mf
open PySem L2
theorem all_mk {l : PySem.W.OpenLaw} {w : World} {K : PySem.W.Frag} {h : Heap} {mg : Str → Option Value} {fa C tD t0 : Addr} (X : K.In h) (G : h.Ns mainGlobals mg) (hfa : mg "law" = some (.ref fa))
    {fSource fDraw fName fNames fSubset fSorted fTruths fMixed fIs fPair fLaw fNEq fNLe fNLt fNOr fNAnd fNSub fNContains fNLen fI : Addr}
    {ocSource : Value} {odSource : Option Addr} {slSource : Array (Option Value)} {kVSource dcSource pmSource : Value} {anSource : Option Addr} {cdSource ctSource : Value}
    {ocDraw : Value} {odDraw : Option Addr} {slDraw : Array (Option Value)} {kVDraw dcDraw pmDraw : Value} {anDraw : Option Addr} {cdDraw ctDraw : Value}
    {ocName : Value} {odName : Option Addr} {slName : Array (Option Value)} {kVName dcName pmName : Value} {anName : Option Addr} {cdName ctName : Value}
    {ocNames : Value} {odNames : Option Addr} {slNames : Array (Option Value)} {kVNames dcNames pmNames : Value} {anNames : Option Addr} {cdNames ctNames : Value}
    {ocSubset : Value} {odSubset : Option Addr} {slSubset : Array (Option Value)} {kVSubset dcSubset pmSubset : Value} {anSubset : Option Addr} {cdSubset ctSubset : Value}
    {ocSorted : Value} {odSorted : Option Addr} {slSorted : Array (Option Value)} {kVSorted dcSorted pmSorted : Value} {anSorted : Option Addr} {cdSorted ctSorted : Value}
    {ocTruths : Value} {odTruths : Option Addr} {slTruths : Array (Option Value)} {kVTruths dcTruths pmTruths : Value} {anTruths : Option Addr} {cdTruths ctTruths : Value}
    {ocMixed : Value} {odMixed : Option Addr} {slMixed : Array (Option Value)} {kVMixed dcMixed pmMixed : Value} {anMixed : Option Addr} {cdMixed ctMixed : Value}
    {ocIs : Value} {odIs : Option Addr} {slIs : Array (Option Value)} {kVIs dcIs pmIs : Value} {anIs : Option Addr} {cdIs ctIs : Value}
    {ocPair : Value} {odPair : Option Addr} {slPair : Array (Option Value)} {kVPair dcPair pmPair : Value} {anPair : Option Addr} {cdPair ctPair : Value}
    {ocLaw : Value} {odLaw : Option Addr} {slLaw : Array (Option Value)} {kVLaw dcLaw pmLaw : Value} {anLaw : Option Addr} {cdLaw ctLaw : Value}
    {ocNEq : Value} {odNEq : Option Addr} {slNEq : Array (Option Value)} {kVNEq dcNEq pmNEq : Value} {anNEq : Option Addr} {cdNEq ctNEq : Value}
    {ocNLe : Value} {odNLe : Option Addr} {slNLe : Array (Option Value)} {kVNLe dcNLe pmNLe : Value} {anNLe : Option Addr} {cdNLe ctNLe : Value}
    {ocNLt : Value} {odNLt : Option Addr} {slNLt : Array (Option Value)} {kVNLt dcNLt pmNLt : Value} {anNLt : Option Addr} {cdNLt ctNLt : Value}
    {ocNOr : Value} {odNOr : Option Addr} {slNOr : Array (Option Value)} {kVNOr dcNOr pmNOr : Value} {anNOr : Option Addr} {cdNOr ctNOr : Value}
    {ocNAnd : Value} {odNAnd : Option Addr} {slNAnd : Array (Option Value)} {kVNAnd dcNAnd pmNAnd : Value} {anNAnd : Option Addr} {cdNAnd ctNAnd : Value}
    {ocNSub : Value} {odNSub : Option Addr} {slNSub : Array (Option Value)} {kVNSub dcNSub pmNSub : Value} {anNSub : Option Addr} {cdNSub ctNSub : Value}
    {ocNContains : Value} {odNContains : Option Addr} {slNContains : Array (Option Value)} {kVNContains dcNContains pmNContains : Value} {anNContains : Option Addr} {cdNContains ctNContains : Value}
    {ocNLen : Value} {odNLen : Option Addr} {slNLen : Array (Option Value)} {kVNLen dcNLen pmNLen : Value} {anNLen : Option Addr} {cdNLen ctNLen : Value}
    {oc : Value} {od : Option Addr} {sl : Array (Option Value)} {kV dc pm : Value} {an : Option Addr} {cd ct : Value} {o1 o2 : Obj} {its : List Value} {n1 n2 : Nat}
    (aC : PySem.W.nsIn K mainGlobals "NameSet" = some (some (.ref C)))
    (aSource : PySem.W.nsIn K mainGlobals "_law_source" = some (some (.ref fSource))) (lSource : K.lookup fSource = some ⟨ocSource, odSource, .func (PySem.W.fnOf "_law_source" "_law_source" (defArgs sSource) (defBody sSource) (defScope sSource) .none kVSource dcSource pmSource anSource cdSource ctSource), slSource⟩) (cSource : PySem.W.codeIn K cdSource "_law_source" = true) (kSource : PySem.W.keepIn K (.ref fSource) = true)
    (aDraw : PySem.W.nsIn K mainGlobals "_law_draw" = some (some (.ref fDraw))) (lDraw : K.lookup fDraw = some ⟨ocDraw, odDraw, .func (PySem.W.fnOf "_law_draw" "_law_draw" (defArgs sDraw) (defBody sDraw) (defScope sDraw) .none kVDraw dcDraw pmDraw anDraw cdDraw ctDraw), slDraw⟩) (cDraw : PySem.W.codeIn K cdDraw "_law_draw" = true) (kDraw : PySem.W.keepIn K (.ref fDraw) = true)
    (aName : PySem.W.nsIn K mainGlobals "_law_name" = some (some (.ref fName))) (lName : K.lookup fName = some ⟨ocName, odName, .func (PySem.W.fnOf "_law_name" "_law_name" (defArgs sName) (defBody sName) (defScope sName) .none kVName dcName pmName anName cdName ctName), slName⟩) (cName : PySem.W.codeIn K cdName "_law_name" = true) (kName : PySem.W.keepIn K (.ref fName) = true)
    (aNames : PySem.W.nsIn K mainGlobals "_law_names" = some (some (.ref fNames))) (lNames : K.lookup fNames = some ⟨ocNames, odNames, .func (PySem.W.fnOf "_law_names" "_law_names" (defArgs sNames) (defBody sNames) (defScope sNames) .none kVNames dcNames pmNames anNames cdNames ctNames), slNames⟩) (cNames : PySem.W.codeIn K cdNames "_law_names" = true) (kNames : PySem.W.keepIn K (.ref fNames) = true)
    (aSubset : PySem.W.nsIn K mainGlobals "_law_subset" = some (some (.ref fSubset))) (lSubset : K.lookup fSubset = some ⟨ocSubset, odSubset, .func (PySem.W.fnOf "_law_subset" "_law_subset" (defArgs sSubset) (defBody sSubset) (defScope sSubset) .none kVSubset dcSubset pmSubset anSubset cdSubset ctSubset), slSubset⟩) (cSubset : PySem.W.codeIn K cdSubset "_law_subset" = true) (kSubset : PySem.W.keepIn K (.ref fSubset) = true)
    (aSorted : PySem.W.nsIn K mainGlobals "_law_sorted" = some (some (.ref fSorted))) (lSorted : K.lookup fSorted = some ⟨ocSorted, odSorted, .func (PySem.W.fnOf "_law_sorted" "_law_sorted" (defArgs sSorted) (defBody sSorted) (defScope sSorted) .none kVSorted dcSorted pmSorted anSorted cdSorted ctSorted), slSorted⟩) (cSorted : PySem.W.codeIn K cdSorted "_law_sorted" = true) (kSorted : PySem.W.keepIn K (.ref fSorted) = true)
    (aTruths : PySem.W.nsIn K mainGlobals "_law_truths" = some (some (.ref fTruths))) (lTruths : K.lookup fTruths = some ⟨ocTruths, odTruths, .func (PySem.W.fnOf "_law_truths" "_law_truths" (defArgs sTruths) (defBody sTruths) (defScope sTruths) .none kVTruths dcTruths pmTruths anTruths cdTruths ctTruths), slTruths⟩) (cTruths : PySem.W.codeIn K cdTruths "_law_truths" = true) (kTruths : PySem.W.keepIn K (.ref fTruths) = true)
    (aMixed : PySem.W.nsIn K mainGlobals "_law_mixed" = some (some (.ref fMixed))) (lMixed : K.lookup fMixed = some ⟨ocMixed, odMixed, .func (PySem.W.fnOf "_law_mixed" "_law_mixed" (defArgs sMixed) (defBody sMixed) (defScope sMixed) .none kVMixed dcMixed pmMixed anMixed cdMixed ctMixed), slMixed⟩) (cMixed : PySem.W.codeIn K cdMixed "_law_mixed" = true) (kMixed : PySem.W.keepIn K (.ref fMixed) = true)
    (aIs : PySem.W.nsIn K mainGlobals "_law_is" = some (some (.ref fIs))) (lIs : K.lookup fIs = some ⟨ocIs, odIs, .func (PySem.W.fnOf "_law_is" "_law_is" (defArgs sIs) (defBody sIs) (defScope sIs) .none kVIs dcIs pmIs anIs cdIs ctIs), slIs⟩) (cIs : PySem.W.codeIn K cdIs "_law_is" = true) (kIs : PySem.W.keepIn K (.ref fIs) = true)
    (aPair : PySem.W.nsIn K mainGlobals "_law_pair" = some (some (.ref fPair))) (lPair : K.lookup fPair = some ⟨ocPair, odPair, .func (PySem.W.fnOf "_law_pair" "_law_pair" (defArgs sPair) (defBody sPair) (defScope sPair) .none kVPair dcPair pmPair anPair cdPair ctPair), slPair⟩) (cPair : PySem.W.codeIn K cdPair "_law_pair" = true) (kPair : PySem.W.keepIn K (.ref fPair) = true)
    (aLaw : PySem.W.nsIn K mainGlobals "law" = some (some (.ref fLaw))) (lLaw : K.lookup fLaw = some ⟨ocLaw, odLaw, .func (PySem.W.fnOf "law" "law" (defArgs sLaw) (defBody sLaw) (defScope sLaw) .none kVLaw dcLaw pmLaw anLaw cdLaw ctLaw), slLaw⟩) (cLaw : PySem.W.codeIn K cdLaw "law" = true) (kLaw : PySem.W.keepIn K (.ref fLaw) = true)
    (aNEq : PySem.W.findIn K (.ref C) "__eq__" = some (some (.ref fNEq))) (lNEq : K.lookup fNEq = some ⟨ocNEq, odNEq, .func (PySem.W.fnOf "__eq__" "NameSet.__eq__" (defArgs sNameSetEq) (defBody sNameSetEq) (defScope sNameSetEq) .none kVNEq dcNEq pmNEq anNEq cdNEq ctNEq), slNEq⟩) (cNEq : PySem.W.codeIn K cdNEq "NameSet.__eq__" = true) (kNEq : PySem.W.keepIn K (.ref fNEq) = true) (iNEq : PySem.W.isFn K (.ref fNEq) = true) (nNEq : PySem.W.fnIn K fNEq = true)
    (aNLe : PySem.W.findIn K (.ref C) "__le__" = some (some (.ref fNLe))) (lNLe : K.lookup fNLe = some ⟨ocNLe, odNLe, .func (PySem.W.fnOf "__le__" "NameSet.__le__" (defArgs sNameSetLe) (defBody sNameSetLe) (defScope sNameSetLe) .none kVNLe dcNLe pmNLe anNLe cdNLe ctNLe), slNLe⟩) (cNLe : PySem.W.codeIn K cdNLe "NameSet.__le__" = true) (kNLe : PySem.W.keepIn K (.ref fNLe) = true) (iNLe : PySem.W.isFn K (.ref fNLe) = true) (nNLe : PySem.W.fnIn K fNLe = true)
    (aNLt : PySem.W.findIn K (.ref C) "__lt__" = some (some (.ref fNLt))) (lNLt : K.lookup fNLt = some ⟨ocNLt, odNLt, .func (PySem.W.fnOf "__lt__" "NameSet.__lt__" (defArgs sNameSetLt) (defBody sNameSetLt) (defScope sNameSetLt) .none kVNLt dcNLt pmNLt anNLt cdNLt ctNLt), slNLt⟩) (cNLt : PySem.W.codeIn K cdNLt "NameSet.__lt__" = true) (kNLt : PySem.W.keepIn K (.ref fNLt) = true) (iNLt : PySem.W.isFn K (.ref fNLt) = true) (nNLt : PySem.W.fnIn K fNLt = true)
    (aNOr : PySem.W.findIn K (.ref C) "__or__" = some (some (.ref fNOr))) (lNOr : K.lookup fNOr = some ⟨ocNOr, odNOr, .func (PySem.W.fnOf "__or__" "NameSet.__or__" (defArgs sNameSetOr) (defBody sNameSetOr) (defScope sNameSetOr) .none kVNOr dcNOr pmNOr anNOr cdNOr ctNOr), slNOr⟩) (cNOr : PySem.W.codeIn K cdNOr "NameSet.__or__" = true) (kNOr : PySem.W.keepIn K (.ref fNOr) = true) (iNOr : PySem.W.isFn K (.ref fNOr) = true) (nNOr : PySem.W.fnIn K fNOr = true)
    (aNAnd : PySem.W.findIn K (.ref C) "__and__" = some (some (.ref fNAnd))) (lNAnd : K.lookup fNAnd = some ⟨ocNAnd, odNAnd, .func (PySem.W.fnOf "__and__" "NameSet.__and__" (defArgs sNameSetAnd) (defBody sNameSetAnd) (defScope sNameSetAnd) .none kVNAnd dcNAnd pmNAnd anNAnd cdNAnd ctNAnd), slNAnd⟩) (cNAnd : PySem.W.codeIn K cdNAnd "NameSet.__and__" = true) (kNAnd : PySem.W.keepIn K (.ref fNAnd) = true) (iNAnd : PySem.W.isFn K (.ref fNAnd) = true) (nNAnd : PySem.W.fnIn K fNAnd = true)
    (aNSub : PySem.W.findIn K (.ref C) "__sub__" = some (some (.ref fNSub))) (lNSub : K.lookup fNSub = some ⟨ocNSub, odNSub, .func (PySem.W.fnOf "__sub__" "NameSet.__sub__" (defArgs sNameSetSub) (defBody sNameSetSub) (defScope sNameSetSub) .none kVNSub dcNSub pmNSub anNSub cdNSub ctNSub), slNSub⟩) (cNSub : PySem.W.codeIn K cdNSub "NameSet.__sub__" = true) (kNSub : PySem.W.keepIn K (.ref fNSub) = true) (iNSub : PySem.W.isFn K (.ref fNSub) = true) (nNSub : PySem.W.fnIn K fNSub = true)
    (aNContains : PySem.W.findIn K (.ref C) "__contains__" = some (some (.ref fNContains))) (lNContains : K.lookup fNContains = some ⟨ocNContains, odNContains, .func (PySem.W.fnOf "__contains__" "NameSet.__contains__" (defArgs sNameSetContains) (defBody sNameSetContains) (defScope sNameSetContains) .none kVNContains dcNContains pmNContains anNContains cdNContains ctNContains), slNContains⟩) (cNContains : PySem.W.codeIn K cdNContains "NameSet.__contains__" = true) (kNContains : PySem.W.keepIn K (.ref fNContains) = true) (iNContains : PySem.W.isFn K (.ref fNContains) = true) (nNContains : PySem.W.fnIn K fNContains = true)
    (aNLen : PySem.W.findIn K (.ref C) "__len__" = some (some (.ref fNLen))) (lNLen : K.lookup fNLen = some ⟨ocNLen, odNLen, .func (PySem.W.fnOf "__len__" "NameSet.__len__" (defArgs sNameSetLen) (defBody sNameSetLen) (defScope sNameSetLen) .none kVNLen dcNLen pmNLen anNLen cdNLen ctNLen), slNLen⟩) (cNLen : PySem.W.codeIn K cdNLen "NameSet.__len__" = true) (kNLen : PySem.W.keepIn K (.ref fNLen) = true) (iNLen : PySem.W.isFn K (.ref fNLen) = true) (nNLen : PySem.W.fnIn K fNLen = true)
    (ia : PySem.W.findIn K (.ref C) "__init__" = some (some (.ref fI))) (ii : PySem.W.isFn K (.ref fI) = true)
    (il : K.lookup fI = some ⟨oc, od, .func (PySem.W.fnOf "__init__" "NameSet.__init__" (defArgs sNameSetInit) (defBody sNameSetInit) (defScope sNameSetInit) (.ref tD) kV dc pm an cd ct), sl⟩) (ic : PySem.W.codeIn K cd "NameSet.__init__" = true) (ik : PySem.W.keepIn K (.ref fI) = true)
    (t1 : K.lookup tD = some o1) (t2 : o1.data = .seq its.toArray n1) (t3 : its = [.ref t0]) (t4 : K.lookup t0 = some o2) (t5 : o2.data = .seq ([] : List Value).toArray n2) (t6 : o2.cls = .type "tuple")
    (pg : PySem.W.plainGet K C Str.empty = true) (hd : PySem.W.hasDictIn K C = true) (po : PySem.W.plainOver K C = true) (sa : PySem.W.findIn K (.ref C) "__setattr__" = some (some (.builtin "object.__setattr__"))) (mk : PySem.W.makesIn K C = true) (kc : PySem.W.keepIn K (.ref C) = true)
    (ha : PySem.W.findIn K (.ref C) "__class__" = some (some (.builtin "object.__class__"))) (hn : PySem.W.specialIn K (.builtin "object.__class__") "__get__" = some (some (.builtin "getset_descriptor.__get__"))) (htk : PySem.W.takesIn K (.builtin "object.__class__") = some true) (hm : PySem.W.mroIn K C (.type "object") = some true)
    (ci : PySem.W.isClsIn K C = true) (ct0 : PySem.W.typeIn K (.ref C) = some (.type "type")) (nM : PySem.W.findIn K (.ref C) "members" = some none) (kL : PySem.W.subIn K (.type "list") (.ref C) = some false) (kT : PySem.W.subIn K (.type "tuple") (.ref C) = some false)
    (ne : PySem.W.findIn K (.ref C) "__ne__" = some (some (.builtin "object.__ne__"))) (sf : PySem.W.selfFirst K C = true)
    (zint : PySem.W.nsIn K mainGlobals "int" = some none) (zenumerate : PySem.W.nsIn K mainGlobals "enumerate" = some none) (zrange : PySem.W.nsIn K mainGlobals "range" = some none) (zlist : PySem.W.nsIn K mainGlobals "list" = some none) (ztuple : PySem.W.nsIn K mainGlobals "tuple" = some none) (zsorted : PySem.W.nsIn K mainGlobals "sorted" = some none) (zstr : PySem.W.nsIn K mainGlobals "str" = some none) (zall : PySem.W.nsIn K mainGlobals "all" = some none) (zisinstance : PySem.W.nsIn K mainGlobals "isinstance" = some none) (zbool : PySem.W.nsIn K mainGlobals "bool" = some none) (zlen : PySem.W.nsIn K mainGlobals "len" = some none) (zset : PySem.W.nsIn K mainGlobals "set" = some none) :
    ∃ fd : FuncData, (∀ (s : Shared) (v : Value), BindsTo s fd ⟨[v], []⟩ [("_law_script", v)]) ∧ ∀ base : Heap, K.In base → base.Ns mainGlobals mg → FnOk l.prog w K mg base CX0 5 fa fd ["_law_script"] (spLaw K) := by
  have dSource : DefF K "_law_source" sSource fSource := ⟨⟨_, _, _, _, _, _, _, _, _, aSource, lSource, cSource, kSource⟩⟩
  have dDraw : DefF K "_law_draw" sDraw fDraw := ⟨⟨_, _, _, _, _, _, _, _, _, aDraw, lDraw, cDraw, kDraw⟩⟩
  have dName : DefF K "_law_name" sName fName := ⟨⟨_, _, _, _, _, _, _, _, _, aName, lName, cName, kName⟩⟩
  have dNames : DefF K "_law_names" sNames fNames := ⟨⟨_, _, _, _, _, _, _, _, _, aNames, lNames, cNames, kNames⟩⟩
  have dSubset : DefF K "_law_subset" sSubset fSubset := ⟨⟨_, _, _, _, _, _, _, _, _, aSubset, lSubset, cSubset, kSubset⟩⟩
  have dSorted : DefF K "_law_sorted" sSorted fSorted := ⟨⟨_, _, _, _, _, _, _, _, _, aSorted, lSorted, cSorted, kSorted⟩⟩
  have dTruths : DefF K "_law_truths" sTruths fTruths := ⟨⟨_, _, _, _, _, _, _, _, _, aTruths, lTruths, cTruths, kTruths⟩⟩
  have dMixed : DefF K "_law_mixed" sMixed fMixed := ⟨⟨_, _, _, _, _, _, _, _, _, aMixed, lMixed, cMixed, kMixed⟩⟩
  have dIs : DefF K "_law_is" sIs fIs := ⟨⟨_, _, _, _, _, _, _, _, _, aIs, lIs, cIs, kIs⟩⟩
  have dPair : DefF K "_law_pair" sPair fPair := ⟨⟨_, _, _, _, _, _, _, _, _, aPair, lPair, cPair, kPair⟩⟩
  have dLaw : DefF K "law" sLaw fLaw := ⟨⟨_, _, _, _, _, _, _, _, _, aLaw, lLaw, cLaw, kLaw⟩⟩
  have mNEq : MetF K C "__eq__" "NameSet.__eq__" sNameSetEq fNEq := ⟨⟨_, _, _, _, _, _, _, _, _, aNEq, lNEq, cNEq, kNEq, iNEq, nNEq⟩⟩
  have mNLe : MetF K C "__le__" "NameSet.__le__" sNameSetLe fNLe := ⟨⟨_, _, _, _, _, _, _, _, _, aNLe, lNLe, cNLe, kNLe, iNLe, nNLe⟩⟩
  have mNLt : MetF K C "__lt__" "NameSet.__lt__" sNameSetLt fNLt := ⟨⟨_, _, _, _, _, _, _, _, _, aNLt, lNLt, cNLt, kNLt, iNLt, nNLt⟩⟩
  have mNOr : MetF K C "__or__" "NameSet.__or__" sNameSetOr fNOr := ⟨⟨_, _, _, _, _, _, _, _, _, aNOr, lNOr, cNOr, kNOr, iNOr, nNOr⟩⟩
  have mNAnd : MetF K C "__and__" "NameSet.__and__" sNameSetAnd fNAnd := ⟨⟨_, _, _, _, _, _, _, _, _, aNAnd, lNAnd, cNAnd, kNAnd, iNAnd, nNAnd⟩⟩
  have mNSub : MetF K C "__sub__" "NameSet.__sub__" sNameSetSub fNSub := ⟨⟨_, _, _, _, _, _, _, _, _, aNSub, lNSub, cNSub, kNSub, iNSub, nNSub⟩⟩
  have mNContains : MetF K C "__contains__" "NameSet.__contains__" sNameSetContains fNContains := ⟨⟨_, _, _, _, _, _, _, _, _, aNContains, lNContains, cNContains, kNContains, iNContains, nNContains⟩⟩
  have mNLen : MetF K C "__len__" "NameSet.__len__" sNameSetLen fNLen := ⟨⟨_, _, _, _, _, _, _, _, _, aNLen, lNLen, cNLen, kNLen, iNLen, nNLen⟩⟩
  have T : NsC K mg C := ⟨⟨⟨pg, hd, po, sa⟩, ha, hn, htk, hm, kit_self⟩, nM, PySem.W.mg_of X G aC, kit_own ci ct0 kL, kit_own ci ct0 kT, notFirst_of kT, notFirst_of kL, PySem.W.mg_none_of X G zisinstance, PySem.W.mg_none_of X G ztuple, PySem.W.mg_none_of X G zsorted, PySem.W.mg_none_of X G zset, PySem.W.mg_none_of X G zall, PySem.W.mg_none_of X G zlen⟩
  have vint : mg "int" = none := PySem.W.mg_none_of X G zint
  have venumerate : mg "enumerate" = none := PySem.W.mg_none_of X G zenumerate
  have vrange : mg "range" = none := PySem.W.mg_none_of X G zrange
  have vlist : mg "list" = none := PySem.W.mg_none_of X G zlist
  have vtuple : mg "tuple" = none := PySem.W.mg_none_of X G ztuple
  have vsorted : mg "sorted" = none := PySem.W.mg_none_of X G zsorted
  have vstr : mg "str" = none := PySem.W.mg_none_of X G zstr
  have vall : mg "all" = none := PySem.W.mg_none_of X G zall
  have visinstance : mg "isinstance" = none := PySem.W.mg_none_of X G zisinstance
  have vbool : mg "bool" = none := PySem.W.mg_none_of X G zbool
  have vlen : mg "len" = none := PySem.W.mg_none_of X G zlen
  have vset : mg "set" = none := PySem.W.mg_none_of X G zset
  refine dLaw.law X G hfa (fun _ _ _ _ _ _ s v => .of_eq rfl) fun base _ _ fd FL => ?_
  have q0 : ∀ H, SqT K H t0 [] := fun H => .inr ⟨o2, #[], n2, t4, t6, t5, Nat.zero_le _, .nil⟩
  subst t3
  have FI : FunD K "__init__" "NameSet.__init__" (defArgs sNameSetInit) (defBody sNameSetInit) (defScope sNameSetInit) [.ref t0] [] fI _ := ⟨⟨oc, od, .ref tD, kV, dc, pm, an, cd, ct, sl, rfl, il, ic, .inr ⟨by simp, tD, o1, _, n1, rfl, t1, t2, .cons rfl .nil⟩, .inl rfl⟩, ik⟩
  have okI : FnOk l.prog w K mg base CX0 1 fI _ ["self", "names"] (spNsInit K C) := ok_nsInit FI T
  obtain ⟨ds1, r1, b1⟩ := FI.binds1 (ps := ["self", "names"]) 2 1 (by simp) rfl fun _ _ _ _ _ _ _ us its hu hi => match us, its, hu, hi with | [_, _], [_], _, _ => ⟨_, rfl, rfl⟩
  obtain ⟨ds0, r0, b0⟩ := FI.binds1 (ps := ["self", "names"]) 1 0 (by simp) rfl fun _ _ _ _ _ _ _ us its hu hi => match us, its, hu, hi with | [_], [_], _, _ => ⟨_, rfl, rfl⟩
  have mk1 : CalN l.prog w K mg base C [] := ⟨⟨fI, _, ds1, ⟨mk, ia, ii, kc⟩, okI, T.mgC, b1, r1⟩⟩
  have mk0 : CalN l.prog w K mg base C [.ref t0] := ⟨⟨fI, _, ds0, ⟨mk, ia, ii, kc⟩, okI, T.mgC, b0, r0⟩⟩
  have cEq : CalM l.prog w K mg base CX0 1 C "__eq__" psSO (spNsEq K C) := mNEq.cal (fun _ _ _ _ _ _ us hl => match us, hl with | [_, _], _ => rfl) fun fd F => ok_nsEq F T
  have cLe : CalM l.prog w K mg base CX0 1 C "__le__" psSO (spNsLe C) := mNLe.cal (fun _ _ _ _ _ _ us hl => match us, hl with | [_, _], _ => rfl) fun fd F => ok_nsLe F T
  have cLt : CalM l.prog w K mg base CX0 2 C "__lt__" psSO (spNsLt C) := mNLt.cal (fun _ _ _ _ _ _ us hl => match us, hl with | [_, _], _ => rfl) fun fd F => ok_nsLt F T cLe
  have cOr : CalM l.prog w K mg base CX0 3 C "__or__" psSO (spNsOp C gOr) := mNOr.cal (fun _ _ _ _ _ _ us hl => match us, hl with | [_, _], _ => rfl) fun fd F => ok_nsOr F T mk1
  have cAnd : CalM l.prog w K mg base CX0 3 C "__and__" psSO (spNsOp C gAnd) := mNAnd.cal (fun _ _ _ _ _ _ us hl => match us, hl with | [_, _], _ => rfl) fun fd F => ok_nsAnd F T mk1
  have cSub : CalM l.prog w K mg base CX0 3 C "__sub__" psSO (spNsOp C gSub) := mNSub.cal (fun _ _ _ _ _ _ us hl => match us, hl with | [_, _], _ => rfl) fun fd F => ok_nsSub F T mk1
  have cIn : CalM l.prog w K mg base CX0 1 C "__contains__" ["self", "name"] (spNsIn C) := mNContains.cal (fun _ _ _ _ _ _ us hl => match us, hl with | [_, _], _ => rfl) fun fd F => ok_nsIn F T
  have cLen : CalM l.prog w K mg base CX0 1 C "__len__" ["self"] (spNsLen C) := mNLen.cal (fun _ _ _ _ _ _ us hl => match us, hl with | [_], _ => rfl) fun fd F => ok_nsLen F T
  have O : NsOps l.prog w K mg base C := ⟨cEq, cLe, cLt, cOr, cAnd, cSub, cIn, cLen, ne, sf⟩
  have c_source : Cal l.prog w K mg base CX0 1 "_law_source" ["_law_script"] (spSource K) := dSource.cal X G (fun _ _ _ _ _ _ us hl => match us, hl with | [_], _ => rfl) fun fd F => ok_source F vint venumerate
  have c_draw : Cal l.prog w K mg base CX0 1 "_law_draw" psD spDraw := dDraw.cal X G (fun _ _ _ _ _ _ us hl => match us, hl with | [_, _], _ => rfl) fun fd F => ok_draw F vint
  have c_name : Cal l.prog w K mg base CX0 2 "_law_name" ["_law_source_here", "_law_taken"] (spName K) := dName.cal X G (fun _ _ _ _ _ _ us hl => match us, hl with | [_, _], _ => rfl) fun fd F => ok_name F c_draw vrange
  have c_names : Cal l.prog w K mg base CX0 3 "_law_names" ["_law_source_here", "_law_many"] spNames := dNames.cal X G (fun _ _ _ _ _ _ us hl => match us, hl with | [_, _], _ => rfl) fun fd F => ok_names F c_name vrange vlist
  have c_subset : Cal l.prog w K mg base CX0 2 "_law_subset" ["_law_source_here", "_law_row"] (spSubset K) := dSubset.cal X G (fun _ _ _ _ _ _ us hl => match us, hl with | [_, _], _ => rfl) fun fd F => ok_subset F c_draw
  have c_sorted : Cal l.prog w K mg base CX0 1 "_law_sorted" ["_law_names_here"] (spSorted K) := dSorted.cal X G (fun _ _ _ _ _ _ us hl => match us, hl with | [_], _ => rfl) fun fd F => ok_sorted F vtuple vsorted vstr
  have c_truths : Cal l.prog w K mg base CX0 1 "_law_truths" ["_law_found", "_law_due"] spTruths := dTruths.cal X G (fun _ _ _ _ _ _ us hl => match us, hl with | [_, _], _ => rfl) fun fd F => ok_truths F vall visinstance vbool
  have c_mixed : Cal l.prog w K mg base CX0 2 "_law_mixed" ["_law_source_here", "_law_row"] (spMixed K) := dMixed.cal X G (fun _ _ _ _ _ _ us hl => match us, hl with | [_, _], _ => rfl) fun fd F => ok_mixed F c_draw vrange vlen
  have c_is : Cal l.prog w K mg base CX0 2 "_law_is" ["_law_found", "_law_due"] (spIs K C) := dIs.cal X G (fun _ _ _ _ _ _ us hl => match us, hl with | [_, _], _ => rfl) fun fd F => ok_is F T c_sorted
  have c_pair : Cal l.prog w K mg base CX0 4 "_law_pair" ["_law_left", "_law_right", "_law_one", "_law_other"] (spPair K C) := dPair.cal X G (fun _ _ _ _ _ _ us hl => match us, hl with | [_, _, _, _], _ => rfl) fun fd F => ok_pair F T O c_sorted c_truths c_is
  exact ok_law FL ⟨T, O, mk1, t0, mk0, ⟨o2, t4, t6⟩, q0⟩ vlist c_source c_draw c_names c_subset c_mixed c_sorted c_truths c_is c_pair
end Mf
open PySem PySem.W PyProof.Rows
set_option maxRecDepth 100000 in
set_option maxHeartbeats 0 in
theorem PySem.Challenge.cw_midfall_k01_name_sets_holds : PySem.Challenge.rw_midfall_k01_name_sets.Holds := by
  w_on; o_law; k_head; (case hw => w_witness2)
  k_fill
  refine Mf.walk (n := 5) (l := PySem.Challenge.rw_midfall_k01_name_sets) rfl rfl ⟨rfl, by decide, by decide⟩ (fun w h Y => PySem.W.kIn_of Y) ?F
  case F =>
    intro w mg fa h KX G hmg
    refine' Mf.all_mk KX G hmg ?aC ?aSource ?lSource ?cSource ?kSource ?aDraw ?lDraw ?cDraw ?kDraw ?aName ?lName ?cName ?kName ?aNames ?lNames ?cNames ?kNames ?aSubset ?lSubset ?cSubset ?kSubset ?aSorted ?lSorted ?cSorted ?kSorted ?aTruths ?lTruths ?cTruths ?kTruths ?aMixed ?lMixed ?cMixed ?kMixed ?aIs ?lIs ?cIs ?kIs ?aPair ?lPair ?cPair ?kPair ?aLaw ?lLaw ?cLaw ?kLaw ?aNEq ?lNEq ?cNEq ?kNEq ?iNEq ?nNEq ?aNLe ?lNLe ?cNLe ?kNLe ?iNLe ?nNLe ?aNLt ?lNLt ?cNLt ?kNLt ?iNLt ?nNLt ?aNOr ?lNOr ?cNOr ?kNOr ?iNOr ?nNOr ?aNAnd ?lNAnd ?cNAnd ?kNAnd ?iNAnd ?nNAnd ?aNSub ?lNSub ?cNSub ?kNSub ?iNSub ?nNSub ?aNContains ?lNContains ?cNContains ?kNContains ?iNContains ?nNContains ?aNLen ?lNLen ?cNLen ?kNLen ?iNLen ?nNLen ?ia ?ii ?il ?ic ?ik ?t1 ?t2 ?t3 ?t4 ?t5 ?t6 ?pg ?hd ?po ?sa ?mk ?kc ?ha ?hn ?htk ?hm ?ci ?ct0 ?nM ?kL ?kT ?ne ?sf ?zint ?zenumerate ?zrange ?zlist ?ztuple ?zsorted ?zstr ?zall ?zisinstance ?zbool ?zlen ?zset
    (case aC => k_is)
    (case aSource => k_is)
    (case lSource => k_is)
    (case cSource => k_is)
    (case kSource => k_is)
    (case aDraw => k_is)
    (case lDraw => k_is)
    (case cDraw => k_is)
    (case kDraw => k_is)
    (case aName => k_is)
    (case lName => k_is)
    (case cName => k_is)
    (case kName => k_is)
    (case aNames => k_is)
    (case lNames => k_is)
    (case cNames => k_is)
    (case kNames => k_is)
    (case aSubset => k_is)
    (case lSubset => k_is)
    (case cSubset => k_is)
    (case kSubset => k_is)
    (case aSorted => k_is)
    (case lSorted => k_is)
    (case cSorted => k_is)
    (case kSorted => k_is)
    (case aTruths => k_is)
    (case lTruths => k_is)
    (case cTruths => k_is)
    (case kTruths => k_is)
    (case aMixed => k_is)
    (case lMixed => k_is)
    (case cMixed => k_is)
    (case kMixed => k_is)
    (case aIs => k_is)
    (case lIs => k_is)
    (case cIs => k_is)
    (case kIs => k_is)
    (case aPair => k_is)
    (case lPair => k_is)
    (case cPair => k_is)
    (case kPair => k_is)
    (case aLaw => k_is)
    (case lLaw => k_is)
    (case cLaw => k_is)
    (case kLaw => k_is)
    (case aNEq => k_is)
    (case lNEq => k_is)
    (case cNEq => k_is)
    (case kNEq => k_is)
    (case iNEq => k_is)
    (case nNEq => k_is)
    (case aNLe => k_is)
    (case lNLe => k_is)
    (case cNLe => k_is)
    (case kNLe => k_is)
    (case iNLe => k_is)
    (case nNLe => k_is)
    (case aNLt => k_is)
    (case lNLt => k_is)
    (case cNLt => k_is)
    (case kNLt => k_is)
    (case iNLt => k_is)
    (case nNLt => k_is)
    (case aNOr => k_is)
    (case lNOr => k_is)
    (case cNOr => k_is)
    (case kNOr => k_is)
    (case iNOr => k_is)
    (case nNOr => k_is)
    (case aNAnd => k_is)
    (case lNAnd => k_is)
    (case cNAnd => k_is)
    (case kNAnd => k_is)
    (case iNAnd => k_is)
    (case nNAnd => k_is)
    (case aNSub => k_is)
    (case lNSub => k_is)
    (case cNSub => k_is)
    (case kNSub => k_is)
    (case iNSub => k_is)
    (case nNSub => k_is)
    (case aNContains => k_is)
    (case lNContains => k_is)
    (case cNContains => k_is)
    (case kNContains => k_is)
    (case iNContains => k_is)
    (case nNContains => k_is)
    (case aNLen => k_is)
    (case lNLen => k_is)
    (case cNLen => k_is)
    (case kNLen => k_is)
    (case iNLen => k_is)
    (case nNLen => k_is)
    (case ia => k_is)
    (case ii => k_is)
    (case il => k_is)
    (case ic => k_is)
    (case ik => k_is)
    (case t1 => k_is)
    (case t2 => rfl)
    (case t3 => rfl)
    (case t4 => k_is)
    (case t5 => rfl)
    (case t6 => rfl)
    (case pg => k_is)
    (case hd => k_is)
    (case po => k_is)
    (case sa => k_is)
    (case mk => k_is)
    (case kc => k_is)
    (case ha => k_is)
    (case hn => k_is)
    (case htk => k_is)
    (case hm => k_is)
    (case ci => k_is)
    (case ct0 => k_is)
    (case nM => k_is)
    (case kL => k_is)
    (case kT => k_is)
    (case ne => k_is)
    (case sf => k_is)
    (case zint => k_is)
    (case zenumerate => k_is)
    (case zrange => k_is)
    (case zlist => k_is)
    (case ztuple => k_is)
    (case zsorted => k_is)
    (case zstr => k_is)
    (case zall => k_is)
    (case zisinstance => k_is)
    (case zbool => k_is)
    (case zlen => k_is)
    (case zset => k_is)
