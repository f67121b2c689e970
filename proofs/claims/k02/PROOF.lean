import PyProof.Rows.All
import Wide.All
import OpenK.AllK
import Wide.FinOn
import HandS.SetFor
import HandS.SetTxt0
import HandS.TupSets
import HandS.Strs
import HandS.More
import PyProof.EnumMake
import PyProof.EnumFor
import PyProof.EnumStmt
import PyProof.TupleIter
import HandS.Iter
import HandS.ForMost
import HandS.ForExc
import HandS.Flow
import HandS.Conv
import HandS.Style
import HandS.TryMany
import HandS.RaiseMore
import HandS.IsInst
import HandS.Codes
import HandS.Wide
import HandS.WideBits
import HandS.TupAny
import HandS.Ends
import PySem.Challenge.RW_mostcrowds_k02_kinds
set_option Elab.async false
set_option linter.all false
set_option maxRecDepth 100000
set_option maxHeartbeats 4000000
namespace J
open PySem PySem.Spec PyProof.Rows L2 PySem.Froz

/-- a set of the texts l (each once), in a heap; it can be walked -/
structure TSet (P : Program) (w : World) (h : Heap) (a : Addr) (l : List Str) : Prop where
  ex : ∃ es ep t, h.get? a = some (sObj "set" (es, ep, t)) ∧ TxOk P w (es, ep, t) l ∧ Ris t.place.toList ∧ (w.params.followText "set-order" = true ∨ t.led = true)
  nd : l.Nodup
  bd : l.length < scanBound
section
variable {P : Program} {w : World} {A : Around} {E : Value → Shared → Prop} {s : Shared} {h h' : Heap} {a : Addr} {l : List Str}
theorem TSet.kept (T : TSet P w h a l) (k : ∀ o, h.get? a = some o → h'.get? a = some o) : TSet P w h' a l := by
  obtain ⟨⟨es, ep, t, o, r⟩, nd, bd⟩ := T
  exact ⟨⟨es, ep, t, k _ o, r⟩, nd, bd⟩
theorem tail_walk {ep : Nat} {es : Array (Int × Value)} {t : SetTable} {b : Bool} (r : Ris t.place.toList) (q : w.params.followText "set-order" = true ∨ t.led = true) :
    Ris (tailTx ep es t b).2.2.place.toList ∧ (w.params.followText "set-order" = true ∨ (tailTx ep es t b).2.2.led = true) := by
  unfold tailTx
  by_cases c : (!b && t.tooFull) = true
  · rw [if_pos c]
    exact ⟨relayAll_ris t es _, q.imp id fun z => (relayAll_led t es _).trans z⟩
  · rw [if_neg c]
    exact ⟨r, q⟩
theorem add_walk {D : SD} {k : Int} {v : Value} (r : Ris D.2.2.place.toList) (q : w.params.followText "set-order" = true ∨ D.2.2.led = true) :
    Ris (addTx k v D).2.2.place.toList ∧ (w.params.followText "set-order" = true ∨ (addTx k v D).2.2.led = true) := by
  obtain ⟨es, ep, t⟩ := D
  have r1 := layNew_ris t es k v r
  have l1 : w.params.followText "set-order" = true ∨ (layNew t es k v).2.1.led = true := q.imp id fun z => (layNew_led t es k v).trans z
  unfold addTx
  refine tail_walk ?_ ?_
  · dsimp only
    split <;> exact r1
  · dsimp only
    split <;> exact l1
/-- one more text, or the same -/
theorem TSet.add {k : Str} {u : Tok} {Q : Bool → Shared → Prop} (T : TSet P w s.heap a l) (room : l.length + 1 < scanBound)
    (q : ∀ b h' l', Heap.SameBut a s.heap h' → TSet P w h' a l' → (∀ x, x ∈ l' ↔ x ∈ l ∨ x = k) → l'.length ≤ l.length + 1 → Q b { s with heap := h' }) : wpAny (model P w) A (setAddHashed a (.str k u) (hashStr w k)) Q E s := by
  obtain ⟨⟨es, ep, t, ho, F, r, ld⟩, nd, bd⟩ := T
  by_cases hk : k ∈ l
  · have hd : (sObj "set" (es, ep, t)).data = .set es ep t := rfl
    have el : ElemsOf (strKind P w) es.toList := F.el
    have sz : es.size < scanBound := by have : es.size = l.length := F.sz; omega
    have ik := is_str (P := P) (w := w) k u
    unfold setAddHashed setAddHashedIn
    refine wpAny_holding (wpAny_bind (wpAny_setState_of ho hd F.fit ?_))
    dsimp only
    rw [byScan_of (knd := strKind P w) (x := .str k u) rfl sz el, if_pos rfl]
    unfold setAddByScan
    refine wpAny_bind (wpAny_bind (wpAny_rule (wpAny_bind (wpAny_setScan_of (knd := strKind P w) (k := k) ik ho hd F.fit el ?_))))
    cases hf : List.findIdx? (fun e => (strKind P w).is k e.2) es.toList with
    | none =>
      obtain ⟨e, he, z⟩ := (F.mem k).mp hk
      have := List.findIdx?_eq_none_iff.mp hf e he
      rw [z] at this; cases this
    | some j =>
      refine wpAny_pure (wpAny_pure ?_)
      exact q false s.heap l (Heap.SameBut.refl a s.heap) ⟨⟨es, ep, t, ho, F, r, ld⟩, nd, bd⟩ (fun x => ⟨.inl, fun z => z.elim id fun e => e ▸ hk⟩) (Nat.le_succ _)
  · refine add_x ho F hk room ?_
    obtain ⟨r', ld'⟩ := add_walk (w := w) (D := (es, ep, t)) (k := hashStr w k) (v := .str k u) r ld
    refine q true _ (k :: l) (Heap.SameBut.update s.heap a _) ⟨⟨_, _, _, get_upd _ ho rfl, add_ok u F, r', ld'⟩, List.nodup_cons.mpr ⟨hk, nd⟩, room⟩ (fun x => ?_) (Nat.le_refl _)
    rw [List.mem_cons]
    exact Or.comm
/-- what is walked goes into the set -/
theorem TSet.walk {I : Addr} {fp wr : List Addr} {G : Array GenState → Array GenState → Prop} {n : Nat} {Pv : Nat → Value → Prop} {St : Nat → Shared → Prop} {R : Result → Shared → Prop} (W : WalksS P w A.in1 I fp wr G n Pv St) {S : Addr} (out : S ∉ fp) {xs : List Str}
    (len : n = xs.length) (room : xs.length + 1 < scanBound) (txt : ∀ i v, Pv i v → ∃ x u, xs[i]? = some x ∧ v = .str x u) (m : Nat) : ∀ (i : Nat) (s : Shared) (l : List Str), n - i = m → i ≤ n → St i s → TSet P w s.heap S l → (∀ x, x ∈ l ↔ x ∈ xs.take i) → l.length ≤ i →
      (∀ s' l', Moved (S :: wr) G s s' → TSet P w s'.heap S l' → (∀ x, x ∈ l' ↔ x ∈ xs) → R (.ok (.ret .none)) s') → codeAny (model P w) A (.builtin "set.update.loop" ⟨[.ref S, .ref I], []⟩) R s := by
  have nw : S ∉ wr := fun z => out (W.sub _ z)
  have up : ∀ b ∈ wr, b ∈ S :: wr := fun b => List.mem_cons_of_mem S
  induction m with
  | zero =>
    intro i s l e hi st T hl _ fin
    have e : i = n := by omega
    rw [e] at st hl
    refine codeAny_builtin F.entry_set_update_loop ?_
    rw [Around.under_plainId F.plain_set_update_loop _]
    refine (wpAny_bind (W.done s _ _ st fun s' mv => ?_) : wpAny _ A.in1 (pyNext (.ref I) >>= _) _ _ s)
    show wpAny _ _ (ret .none) _ _ _
    refine wpAny_pure (fin s' l (mv.mono up) (T.kept fun o => mv.heap S o nw) fun x => ?_)
    rw [hl x, List.take_of_length_le (by omega)]
  | succ m ih =>
    intro i s l e hi st T hl ll fin
    have lt : i < n := by omega
    refine codeAny_builtin F.entry_set_update_loop ?_
    rw [Around.under_plainId F.plain_set_update_loop _]
    refine (wpAny_bind (W.item i s _ _ lt st fun v s' pv st' mv => ?_) : wpAny _ A.in1 (pyNext (.ref I) >>= _) _ _ s)
    obtain ⟨x, u, hx, rfl⟩ := txt i v pv
    have T' : TSet P w s'.heap S l := T.kept fun o => mv.heap S o nw
    refine (wpAny_bind (wpAny_holding ?_) : wpAny _ A.in1 (holding [Value.str x u] (setAdd S (.str x u)) >>= _) _ _ s')
    unfold setAdd
    refine wpAny_holding (wpAny_bind ((strKind P w).pyHash (k := x) (is_str x u) ?_))
    refine TSet.add (s := { s' with toks := s'.toks + 1 }) T' (by omega) fun b h' l' sb T2 hl' ll' => ?_
    have other : ∀ c o, c ≠ S → s'.heap.get? c = some o → h'.get? c = some o := fun c o hc ho => by rw [sb.2 c hc]; exact ho
    refine wpAny_pure ⟨plainId_quiet F.plain_set_update_loop _, ih (i + 1) _ l' (by omega) lt ?_ T2 (fun y => ?_) (by omega) fun s2 l2 mv2 => ?_⟩
    · exact W.frame _ s' _ _ st' (Nat.le_succ _) fun c hc o => other c o fun z => out (z ▸ hc)
    · rw [hl' y, hl y, List.take_add_one, hx, List.mem_append, Option.toList_some, List.mem_singleton]
    · exact fin s2 l2 (Moved.trans W.gtrans ((mv.mono up).then_heap (Nat.le_succ _) fun c o hc => other c o fun z => hc (z ▸ List.mem_cons_self)) mv2)
set_option maxHeartbeats 8000000 in
theorem set_of_list {b : Addr} {its : Array Value} {xs : List Str} {Q : Value → Shared → Prop} (hh : A.handled = none) (sq : s.heap.IsList b its) (tx : StrsAre its.toList xs) (room : xs.length + 1 < scanBound)
    (q : ∀ h' tk l', TSet P w h' s.heap.objs.size l' → (∀ x, x ∈ l' ↔ x ∈ xs) → (∀ c o, s.heap.get? c = some o → h'.get? c = some o) → Q (.ref s.heap.objs.size) { s with heap := h', toks := tk }) : wpAny (model P w) A (call (.type "set") [.ref b]) Q E s := by
  obtain ⟨c, tl, mro⟩ := F.called_set.mro
  have made := F.called_set.made; have sub := F.called_set.sub; have nT := F.called_set.notType; have cC := F.called_set.canCreate
  have tc := F.typeCall_set_1 (.ref b); have sz : its.size = xs.length := by rw [← Array.length_toList, StrsAre.len_eq tx]
  refine wpAny_call (codeAny_of_tree ?_)
  show wpAny _ _ (callAny (.type "set") ⟨[.ref b], []⟩) _ _ _
  refine wpAny_pure (And.intro (Code.quiet_builtin _ (by decide +kernel)) (codeAny_builtin F.entry_type_call ?_))
  rw [Around.under_plain (weight_type_call_type "set" [.ref b] []) rfl]
  repeat (any_goals (first | assumption | wp_step))
  let empty : Obj := sObj "set" (#[], 0, .fresh 0 0 (!w.params.followText "set-order"))
  refine codeAny_mono (code_set_led1 (.ref b) (E := E) (Q₁ := fun o s₁ => o = .ref s.heap.objs.size ∧ s₁ = { s with heap := s.heap.push empty }) ⟨rfl, rfl⟩) fun r s₁ hr => ?_
  cases r with
  | error e => exact hr
  | ok fl =>
    cases fl with
    | ret o =>
      obtain ⟨rfl, rfl⟩ := hr
      have at0 : (s.heap.push empty).get? s.heap.objs.size = some empty := Heap.get?_push_size _ rfl
      have ty : Shared.TypeIs { s with heap := s.heap.push empty } (.ref s.heap.objs.size) "set" := ⟨_, at0, rfl⟩
      have lk := F.called_set.init.lookup; have bi := F.called_set.init.bind (.ref s.heap.objs.size)
      repeat (any_goals (first | assumption | wp_step))
      refine codeAny_mono (codeAny_call_builtin (R := wants (fun r s₂ => r = .none ∧ ∃ h' tk l', s₂ = { s with heap := h', toks := tk } ∧ TSet P w h' s.heap.objs.size l' ∧ (∀ x, x ∈ l' ↔ x ∈ xs) ∧ ∀ c o, s.heap.get? c = some o → h'.get? c = some o) E)
        F.called_set.init.plain F.entry_set_init (check_set_init_1 ty ?_)) fun r₂ s₂ hr₂ => ?_
      · obtain ⟨⟨ocl, odi, oda, osl⟩, ob, ecl, nl, eda⟩ := sq
        dsimp only at ecl eda
        subst ecl eda
        have ob1 : (s.heap.push empty).get? b = some { cls := .type "list", dict := odi, data := .seq its nl, slots := osl } := Heap.get?_push_of_some _ ob
        have f1 := F.sub_list_set; have f2 := F.sub_list_frozenset; have f3 : (Value.type "list" == Value.type "dict") = false := by decide
        have sq1 : (s.heap.push empty).IsList b its := ⟨_, ob1, rfl, nl, rfl⟩
        unfold Builtin.«set.__init__» noKeywords Builtin.Frozenset.updateFrom
        generalize hp : pyIter = PI
        wp_walk
        subst hp
        refine wpAny_pyIter_list sq1 (wpAny_bind (wpAny_runValue ?_))
        have lt0 : b < s.heap.objs.size := Heap.lt_size ob
        have z1 : (s.heap.push empty).objs.size = s.heap.objs.size + 1 := Heap.size_push ..
        have ne1 : b ≠ (s.heap.push empty).objs.size := z1 ▸ Nat.ne_of_lt (Nat.lt_succ_of_lt lt0)
        have out : s.heap.objs.size ∉ [(s.heap.push empty).objs.size, b] := by
          simp only [List.mem_cons, List.not_mem_nil, or_false, not_or]
          exact ⟨z1 ▸ Nat.ne_of_lt (Nat.lt_succ_self _), Nat.ne_of_gt lt0⟩
        have hd3 : A.in1.in1.in1.handled = none := by simp [hh]
        refine TSet.walk (P := P) (w := w) (A := A.in1.in1) (xs := xs) (Walks.list hd3 _ b ne1 its).toS out sz room (fun i v hv => ?_) (its.size - 0) 0 _ [] rfl (Nat.zero_le _) ⟨⟨_, Heap.get?_push_size _ rfl, rfl, rfl⟩, sq1.push _⟩ ?_ (fun x => by simp) (Nat.le_refl _) fun s' l' mv T hl => ?_
        · obtain ⟨u, e⟩ := SS.strs_at tx i v (by rw [Array.getElem?_toList]; exact hv)
          have li : i < xs.length := by rw [← sz]; exact (Array.getElem?_eq_some_iff.mp hv).1
          rw [List.getD_eq_getElem?_getD, List.getElem?_eq_getElem li] at e
          exact ⟨xs[i], u, List.getElem?_eq_getElem li, e⟩
        · refine ⟨⟨#[], 0, _, Heap.get?_push_of_some _ at0, TxOk.nil (by rfl), List.Pairwise.nil, ?_⟩, List.nodup_nil, (by unfold scanBound; simp)⟩
          show _ ∨ (!w.params.followText "set-order") = true
          cases w.params.followText "set-order"
          · exact .inr rfl
          · exact .inl rfl
        · obtain ⟨h', g2, d', tk, os'⟩ := s'
          obtain ⟨e1, e2, e3⟩ : g2 = s.gens ∧ d' = s.drawn ∧ os' = s.os := ⟨mv.gens, mv.drawn, mv.os⟩
          subst e1 e2 e3
          show wpAny _ _ _ _ _ _
          refine wpAny_pure ?_
          show wpAny _ _ (ret .none) _ _ _
          refine wpAny_pure ⟨rfl, h', tk, l', rfl, T, hl, fun c o ho => ?_⟩
          have lc : c < s.heap.objs.size := Heap.lt_size ho
          refine mv.heap c o ?_ (Heap.get?_push_of_some _ (Heap.get?_push_of_some _ ho))
          simp only [List.mem_cons, List.not_mem_nil, or_false, not_or]
          exact ⟨Nat.ne_of_lt lc, z1 ▸ Nat.ne_of_lt (Nat.lt_succ_of_lt lc)⟩
      · cases r₂ with
        | error e => exact hr₂
        | ok fl₂ =>
          cases fl₂ with
          | ret r =>
            obtain ⟨rfl, h', tk, l', rfl, T, hl, kp⟩ := hr₂
            repeat (any_goals (first | assumption | wp_step))
            exact q _ _ _ T hl kp
          | _ => exact hr₂.elim
    | _ => exact hr.elim
set_option maxHeartbeats 8000000 in
theorem set_of_tuple {b : Addr} {its : Array Value} {xs : List Str} {Q : Value → Shared → Prop} (hh : A.handled = none) (sq : s.heap.IsTuple b its) (tx : StrsAre its.toList xs) (room : xs.length + 1 < scanBound)
    (q : ∀ h' tk l', TSet P w h' s.heap.objs.size l' → (∀ x, x ∈ l' ↔ x ∈ xs) → (∀ c o, s.heap.get? c = some o → h'.get? c = some o) → Q (.ref s.heap.objs.size) { s with heap := h', toks := tk }) : wpAny (model P w) A (call (.type "set") [.ref b]) Q E s := by
  obtain ⟨c, tl, mro⟩ := F.called_set.mro
  have made := F.called_set.made; have sub := F.called_set.sub; have nT := F.called_set.notType; have cC := F.called_set.canCreate
  have tc := F.typeCall_set_1 (.ref b); have sz : its.size = xs.length := by rw [← Array.length_toList, StrsAre.len_eq tx]
  refine wpAny_call (codeAny_of_tree ?_)
  show wpAny _ _ (callAny (.type "set") ⟨[.ref b], []⟩) _ _ _
  refine wpAny_pure (And.intro (Code.quiet_builtin _ (by decide +kernel)) (codeAny_builtin F.entry_type_call ?_))
  rw [Around.under_plain (weight_type_call_type "set" [.ref b] []) rfl]
  repeat (any_goals (first | assumption | wp_step))
  let empty : Obj := sObj "set" (#[], 0, .fresh 0 0 (!w.params.followText "set-order"))
  refine codeAny_mono (code_set_led1 (.ref b) (E := E) (Q₁ := fun o s₁ => o = .ref s.heap.objs.size ∧ s₁ = { s with heap := s.heap.push empty }) ⟨rfl, rfl⟩) fun r s₁ hr => ?_
  cases r with
  | error e => exact hr
  | ok fl =>
    cases fl with
    | ret o =>
      obtain ⟨rfl, rfl⟩ := hr
      have at0 : (s.heap.push empty).get? s.heap.objs.size = some empty := Heap.get?_push_size _ rfl
      have ty : Shared.TypeIs { s with heap := s.heap.push empty } (.ref s.heap.objs.size) "set" := ⟨_, at0, rfl⟩
      have lk := F.called_set.init.lookup; have bi := F.called_set.init.bind (.ref s.heap.objs.size)
      repeat (any_goals (first | assumption | wp_step))
      refine codeAny_mono (codeAny_call_builtin (R := wants (fun r s₂ => r = .none ∧ ∃ h' tk l', s₂ = { s with heap := h', toks := tk } ∧ TSet P w h' s.heap.objs.size l' ∧ (∀ x, x ∈ l' ↔ x ∈ xs) ∧ ∀ c o, s.heap.get? c = some o → h'.get? c = some o) E)
        F.called_set.init.plain F.entry_set_init (check_set_init_1 ty ?_)) fun r₂ s₂ hr₂ => ?_
      · obtain ⟨⟨ocl, odi, oda, osl⟩, ob, ecl, nl, eda⟩ := sq
        dsimp only at ecl eda
        subst ecl eda
        have ob1 : (s.heap.push empty).get? b = some { cls := .type "tuple", dict := odi, data := .seq its nl, slots := osl } := Heap.get?_push_of_some _ ob
        have f1 := F.sub_tuple_set; have f2 := F.sub_tuple_frozenset; have f3 : (Value.type "tuple" == Value.type "dict") = false := by decide
        have sq1 : (s.heap.push empty).IsTuple b its := ⟨_, ob1, rfl, nl, rfl⟩
        unfold Builtin.«set.__init__» noKeywords Builtin.Frozenset.updateFrom
        generalize hp : pyIter = PI
        wp_walk
        subst hp
        refine wpAny_pyIter_tuple sq1 (wpAny_bind (wpAny_runValue ?_))
        have lt0 : b < s.heap.objs.size := Heap.lt_size ob
        have z1 : (s.heap.push empty).objs.size = s.heap.objs.size + 1 := Heap.size_push ..
        have ne1 : b ≠ (s.heap.push empty).objs.size := z1 ▸ Nat.ne_of_lt (Nat.lt_succ_of_lt lt0)
        have out : s.heap.objs.size ∉ [(s.heap.push empty).objs.size, b] := by
          simp only [List.mem_cons, List.not_mem_nil, or_false, not_or]
          exact ⟨z1 ▸ Nat.ne_of_lt (Nat.lt_succ_self _), Nat.ne_of_gt lt0⟩
        have hd3 : A.in1.in1.in1.handled = none := by simp [hh]
        refine TSet.walk (P := P) (w := w) (A := A.in1.in1) (xs := xs) (Walks.tuple hd3 _ b ne1 its).toS out sz room (fun i v hv => ?_) (its.size - 0) 0 _ [] rfl (Nat.zero_le _) ⟨⟨_, Heap.get?_push_size _ rfl, rfl, rfl⟩, sq1.push _⟩ ?_ (fun x => by simp) (Nat.le_refl _) fun s' l' mv T hl => ?_
        · obtain ⟨u, e⟩ := SS.strs_at tx i v (by rw [Array.getElem?_toList]; exact hv)
          have li : i < xs.length := by rw [← sz]; exact (Array.getElem?_eq_some_iff.mp hv).1
          rw [List.getD_eq_getElem?_getD, List.getElem?_eq_getElem li] at e
          exact ⟨xs[i], u, List.getElem?_eq_getElem li, e⟩
        · refine ⟨⟨#[], 0, _, Heap.get?_push_of_some _ at0, TxOk.nil (by rfl), List.Pairwise.nil, ?_⟩, List.nodup_nil, (by unfold scanBound; simp)⟩
          show _ ∨ (!w.params.followText "set-order") = true
          cases w.params.followText "set-order"
          · exact .inr rfl
          · exact .inl rfl
        · obtain ⟨h', g2, d', tk, os'⟩ := s'
          obtain ⟨e1, e2, e3⟩ : g2 = s.gens ∧ d' = s.drawn ∧ os' = s.os := ⟨mv.gens, mv.drawn, mv.os⟩
          subst e1 e2 e3
          show wpAny _ _ _ _ _ _
          refine wpAny_pure ?_
          show wpAny _ _ (ret .none) _ _ _
          refine wpAny_pure ⟨rfl, h', tk, l', rfl, T, hl, fun c o ho => ?_⟩
          have lc : c < s.heap.objs.size := Heap.lt_size ho
          refine mv.heap c o ?_ (Heap.get?_push_of_some _ (Heap.get?_push_of_some _ ho))
          simp only [List.mem_cons, List.not_mem_nil, or_false, not_or]
          exact ⟨Nat.ne_of_lt lc, z1 ▸ Nat.ne_of_lt (Nat.lt_succ_of_lt lc)⟩
      · cases r₂ with
        | error e => exact hr₂
        | ok fl₂ =>
          cases fl₂ with
          | ret r =>
            obtain ⟨rfl, h', tk, l', rfl, T, hl, kp⟩ := hr₂
            repeat (any_goals (first | assumption | wp_step))
            exact q _ _ _ T hl kp
          | _ => exact hr₂.elim
    | _ => exact hr.elim
end
end J

namespace J
open PySem PySem.Spec PyProof.Rows L2 PySem.Froz

theorem perm_of_sub : ∀ {l z : List Str}, l.Nodup → (∀ x ∈ l, x ∈ z) → z.length ≤ l.length → l.Perm z
  | [], z, _, _, h => by
    have : z = [] := List.eq_nil_of_length_eq_zero (by simpa using h)
    rw [this]
  | x :: r, z, nd, sub, h => by
    obtain ⟨nx, nr⟩ := List.nodup_cons.mp nd
    have hx : x ∈ z := sub x List.mem_cons_self
    have len := List.length_erase_of_mem hx
    have pos : 0 < z.length := List.length_pos_of_mem hx
    refine (List.Perm.cons x (perm_of_sub (z := z.erase x) nr (fun y hy => ?_) ?_)).trans (List.perm_cons_erase hx).symm
    · exact (List.mem_erase_of_ne fun (e : y = x) => nx (e ▸ hy)).mpr (sub y (List.mem_cons_of_mem _ hy))
    · rw [List.length_cons] at h; omega
theorem strs_of_all : ∀ vs : List Value, (∀ v ∈ vs, ∃ x t, v = Value.str x t) → ∃ zs, StrsAre vs zs
  | [], _ => ⟨[], .nil⟩
  | v :: vs, h => by
    obtain ⟨x, t, rfl⟩ := h v List.mem_cons_self
    obtain ⟨zs, q⟩ := strs_of_all vs fun u hu => h u (List.mem_cons_of_mem _ hu)
    exact ⟨x :: zs, .cons x t q⟩
theorem strs_mem : ∀ {vs : List Value} {zs : List Str} {x : Str} {t : Tok}, StrsAre vs zs → Value.str x t ∈ vs → x ∈ zs
  | _, _, _, _, .nil, h => by cases h
  | _, _, _, _, .cons y u q, h => by
    rcases List.mem_cons.mp h with e | h
    · cases e; exact List.mem_cons_self
    · exact List.mem_cons_of_mem _ (strs_mem q h)
theorem is_str_eq {P : Program} {w : World} {k : Str} {v : Value} (h : (strKind P w).is k v = true) : ∃ t, v = .str k t := by
  have h : Value.isStrOf k v = true := h
  cases v with
  | str x t =>
    have : x = k := by simpa [Value.isStrOf] using h
    exact ⟨t, by rw [this]⟩
  | _ => simp [Value.isStrOf] at h
section
variable {P : Program} {w : World} {A : Around} {E : Value → Shared → Prop} {s : Shared} {a : Addr} {l : List Str}
theorem sorted_TSet {Q : Value → Shared → Prop} (T : TSet P w s.heap a l) (hh : A.handled = none) (few : l.length < 64)
    (q : ∀ s' p (out : Array Value) (c : Nat) ys, (∀ b o, s.heap.get? b = some o → s'.heap.get? b = some o) → s'.gens = s.gens → s'.os = s.os → s.heap.objs.size ≤ p → s'.heap.get? p = some (seqObj "list" out c) →
      StrsAre out.toList ys → ys.Perm l → sortedS ys = true → Q (.ref p) s') : wpAny (model P w) A (call (.builtin "sorted") [.ref a]) Q E s := by
  obtain ⟨⟨es, ep, t, ho, F, r, ld⟩, nd, bd⟩ := T
  have esz : es.size = l.length := F.sz
  have eb : es.size < scanBound := by rw [esz]; exact bd
  refine Calls.call_function_entry kind_sorted plain_sorted entry_sorted (args_sorted1 _) ?_
  unfold Builtin.«sorted»
  refine wpAny_bind (m := checkCount "sorted" 1 1 _) (wpAny_pure (wpAny_bind ?_))
  refine collect_set (A := A.in1) hh ⟨_, ho, rfl, rfl⟩ F.fit eb r ld fun s1 vs k1 hz g1 o1 pm => ?_
  have txt : ∀ v ∈ vs, ∃ x u, v = Value.str x u := fun v hv => by
    obtain ⟨e, he, z⟩ := List.mem_map.mp (pm.mem_iff.mp hv)
    obtain ⟨⟨k, hk, _⟩, _⟩ := F.el e he
    obtain ⟨u, hu⟩ := is_str_eq hk
    exact ⟨k, u, by rw [← z]; exact hu⟩
  obtain ⟨zs, hS⟩ := strs_of_all vs txt
  have vl : vs.length = l.length := by rw [pm.length_eq, List.length_map, Array.length_toList]; exact esz
  have pz : l.Perm zs := perm_of_sub nd (fun x hx => by
    obtain ⟨e, he, z⟩ := (F.mem x).mp hx
    obtain ⟨u, hu⟩ := is_str_eq z
    exact strs_mem hS (t := u) (pm.mem_iff.mpr (List.mem_map.mpr ⟨e, he, hu⟩))) (by rw [← StrsAre.len_eq hS, vl]; exact Nat.le_refl _)
  refine wpAny_bind (wpAny_newList ?_ (by rw [vl, sizeLine_eq]; omega))
  have hL : (s1.heap.push (seqObj "list" vs.toArray 0)).get? s1.heap.objs.size = some (seqObj "list" vs.toArray 0) := Heap.get?_push_size _ rfl
  refine wpAny_bind (wpAny_holding (wpAny_call_entry slot_list_sort ⟨_, hL, rfl⟩ entry_list_sort (list_sort_treeK strKind_oneLt hL hS.keysOf (fun v₁ v₂ rest e => keyKind_strs (by rw [← e]; exact hS)) (by omega) fun st' hp hs => ?_) (args_list_sort _)))
  obtain ⟨ys, y1, y2, y3⟩ := sorted_out_str hS hp hs
  obtain ⟨c, hc⟩ := sortedHeap_at (vs := vs) (out := (arrOf st').map (·.2)) hL
  refine ⟨_, rfl, wpAny_pure ⟨_, rfl, q _ s1.heap.objs.size ((arrOf st').map (·.2)) c ys (fun b o e => ?_) g1 o1 hz hc y1 (y2.trans pz.symm) y3⟩⟩
  have lt := Heap.lt_size (k1 b o e)
  refine (sortedHeap_old (Nat.ne_of_lt lt) ?_).trans (Heap.get?_push_of_some _ (k1 b o e))
  rw [size_push']; exact Nat.lt_succ_of_lt lt
end

/-! ### as rules -/
def TSetO (P : Program) (w : World) (a : Addr) (l : List Str) : HO := .ext fun h => TSet P w h a l
section
variable {X : Cx}
theorem tset_new {P : Program} {w : World} {H : Hp} {h : Heap} {a : Addr} {l : List Str} (T : TSet P w h a l) : ObjOk P w H h a (TSetO P w a l) := by
  obtain ⟨es, ep, t, ho, _⟩ := T.ex
  exact ⟨T, ⟨_, ho⟩, fun h1 h2 p k => TSet.kept p k⟩
/-- set(xs), xs a list or a tuple of texts -/
def rSetS (K : PySem.W.Frag) (P : Program) (w : World) : List V → Hp → VK → Prop := fun vs H Q => ∃ (b : Addr) (xs : List Str), vs = [V.ref b] ∧ (SqL K H b (xs.map V.str) ∨ SqT K H b (xs.map V.str)) ∧ xs.length + 1 < scanBound ∧
  ∀ a l, H a = none → l.Nodup → (∀ x, x ∈ l ↔ x ∈ xs) → Q (.ref a) (upd H a (TSetO P w a l))
theorem cr_setS (hc : X.calm = true) : CallR X (.type "set") (rSetS X.K X.prog X.w) := by
  intro pins s σ H vs us Q I r h
  obtain ⟨b, xs, rfl, sq, room, q⟩ := h
  rw [Vals.ref1 r]
  have hn : H s.heap.objs.size = none := I.hok.fresh (Nat.le_refl _)
  have fin : ∀ h' tk l', TSet X.prog X.w h' s.heap.objs.size l' → (∀ x, x ∈ l' ↔ x ∈ xs) → (∀ c o, s.heap.get? c = some o → h'.get? c = some o) → EP X pins σ Q (.ref s.heap.objs.size) { s with heap := h', toks := tk } := fun h' tk l' T hl kp =>
    ⟨.ref s.heap.objs.size, upd H s.heap.objs.size (TSetO X.prog X.w s.heap.objs.size l'), I.laid (t' := tk) kp (Nat.le_refl _) (tset_new T), rfl, q _ l' hn T.nd hl⟩
  rcases sq with sq | sq
  · obtain ⟨its, rv, pl, hz⟩ := I.list sq
    exact set_of_list (I.ok.hd hc) pl.isList (by simpa using strsAre_of rv) room fin
  · obtain ⟨its, rv, pl, hz⟩ := I.tuple sq
    exact set_of_tuple (its := its.toArray) (I.ok.hd hc) (by obtain ⟨o, ho, hcl, n, hd⟩ := pl; exact ⟨o, ho, hcl, n, hd⟩) (by simpa using strsAre_of rv) room fin
/-- sorted(set) -/
def rSortedTS (P : Program) (w : World) : List V → Hp → VK → Prop := fun vs H Q => ∃ (a : Addr) (l : List Str), vs = [V.ref a] ∧ H a = some (TSetO P w a l) ∧ l.length < 64 ∧
  ∀ (ys : List Str) (p : Addr), ys.Perm l → l.Nodup → sortedS ys = true → H p = none → Q (.ref p) (upd H p (.lst (ys.map V.str)))
theorem cr_sortedTS (hc : X.calm = true) : CallR X (.builtin "sorted") (rSortedTS X.prog X.w) := by
  intro pins s σ H vs us Q I r h
  obtain ⟨a, l, rfl, ha, few, q⟩ := h
  rw [Vals.ref1 r]
  have T : TSet X.prog X.w s.heap a l := (I.hok a _ ha).1
  refine sorted_TSet T (I.ok.hd hc) few fun s' p out c ys kp g o hp hg tx pm st => ?_
  have hn : H p = none := I.hok.fresh hp
  have len : (ys.map V.str).length ≤ sizeLine := by rw [List.length_map, pm.length_eq]; exact small64 few
  have I2 : Inv X pins σ (upd H p (.lst (ys.map V.str))) { s with heap := s'.heap, gens := s'.gens, drawn := s'.drawn, toks := s'.toks } :=
    I.call (ch := []) (Un.laid kp hp hn) (I.hok.laid kp hp ⟨len, out.toList, c, vals_of_strs tx, hg⟩) (by rw [g]; exact I.bare) fun _ z => nomatch z
  have e : s' = { s with heap := s'.heap, gens := s'.gens, drawn := s'.drawn, toks := s'.toks } := by
    cases s'; cases s; cases o; rfl
  rw [e]
  exact ⟨.ref p, _, I2, rfl, q ys p pm T.nd st hn⟩
end
end J

namespace J
open PySem PySem.Spec PyProof.Rows L2

section
variable {P : Program} {w : World} {A : Around} {E : Value → Shared → Prop} {s : Shared} {it t e : Addr} {i : Nat} {its : Array Value} {x old : Value}
/-- the next item of a tuple's iterator, asked for by its own name -/
theorem tup_more {Q : Value → Shared → Prop} (hi : s.heap.IsTupleIter it t i) (ht : s.heap.IsTuple t its) (hx : its[i]? = some x) (q : ∀ h', h'.IsTupleIter it t (i + 1) → Heap.SameBut it s.heap h' → Q x { s with heap := h' }) :
    wpAny (model P w) A (Builtin.SmallTypes.nextOf (.ref it)) Q E s := by
  obtain ⟨o, ho, hc, hd⟩ := id hi
  obtain ⟨p, hp, _, n, hn⟩ := ht
  have no : ¬ ((Value.ref t == Value.none) = true) := Bool.false_ne_true
  unfold Builtin.SmallTypes.nextOf
  refine wpAny_bind (wpAny_callSpecial?_slot (name := Str.ofString "__next__") hi.typeIs F.slot_tuple_iterator_next (wpAny_call_entry F.slot_tuple_iterator_next hi.typeIs F.entry_tuple_iterator_next ?_ (F.args_tuple_iterator_next_1 _)))
  refine (wpAny_bind (wpAny_field ho hd (x := .ref t) rfl ?_) : wpAny _ _ (field (.ref it) 0 >>= _) _ _ s)
  show wpAny _ _ (ite ((Value.ref t == Value.none) = true) _ _) _ _ s; rw [if_neg no]
  refine (wpAny_bind (wpAny_field ho hd (x := .int i 0) rfl ?_) : wpAny _ _ (field (.ref it) 1 >>= _) _ _ s)
  refine (wpAny_bind (wpAny_seqItems hp hn ?_) : wpAny _ _ (seqItems? (.ref t) >>= _) _ _ s)
  simp only [Int.toNat_natCast, hx]
  refine wpAny_bind (wpAny_setField ho hd (by simp) (wpAny_pure ⟨x, rfl, wpAny_pure (q _ ⟨_, Heap.get?_update_self _ ho (Obj.isFreed_of_fields (Obj.data_mapFields hd _)), (Obj.cls_mapFields ..).trans hc, ?_⟩ (Heap.SameBut.update ..))⟩))
  rw [Obj.data_mapFields hd]
  simp [rawInt]
theorem tup_over {Q : Value → Shared → Prop} (hh : A.handled = none) (hi : s.heap.IsTupleIter it t i) (ht : s.heap.IsTuple t its) (hx : its[i]? = none) (q : ∀ h' b, Heap.ExtBut it s.heap h' → (∃ o, h'.get? b = some o ∧ o.cls = .type "StopIteration") → E (.ref b) { s with heap := h' }) :
    wpAny (model P w) A (Builtin.SmallTypes.nextOf (.ref it)) Q E s := by
  obtain ⟨o, ho, hc, hd⟩ := id hi
  obtain ⟨p, hp, _, n, hn⟩ := ht
  have no : ¬ ((Value.ref t == Value.none) = true) := Bool.false_ne_true
  unfold Builtin.SmallTypes.nextOf
  refine wpAny_bind (wpAny_callSpecial?_slot (name := Str.ofString "__next__") hi.typeIs F.slot_tuple_iterator_next (wpAny_call_entry F.slot_tuple_iterator_next hi.typeIs F.entry_tuple_iterator_next ?_ (F.args_tuple_iterator_next_1 _)))
  refine (wpAny_bind (wpAny_field ho hd (x := .ref t) rfl ?_) : wpAny _ _ (field (.ref it) 0 >>= _) _ _ s)
  show wpAny _ _ (ite ((Value.ref t == Value.none) = true) _ _) _ _ s; rw [if_neg no]
  refine (wpAny_bind (wpAny_field ho hd (x := .int i 0) rfl ?_) : wpAny _ _ (field (.ref it) 1 >>= _) _ _ s)
  refine (wpAny_bind (wpAny_seqItems hp hn ?_) : wpAny _ _ (seqItems? (.ref t) >>= _) _ _ s)
  simp only [Int.toNat_natCast, hx]
  refine wpAny_bind (wpAny_rule (wpAny_bind (wpAny_setField ho hd (by simp) (wpAny_bind ?_))))
  simp only [newExc, newTuple]
  refine wpAny_bind (wpAny_newObj_type (wpAny_bind (m := firstArgMember _ _) (wpAny_of_eq (a := Value.none) (by first | rfl | (simp only [firstArgMember]; rfl)) (wpAny_newObj_type ?_ (by size_fits)))) (by size_fits))
  simp only [raiseNew]
  refine wpAny_bind (wpAny_handled ?_)
  first | rw [show A.in1.handled = none from hh] | rw [hh]
  exact wpAny_bind (wpAny_pure (wpAny_throw (q _ _ (((Heap.SameBut.update ..).extBut.push _).push _) ⟨_, Heap.get?_push_size _ rfl, rfl⟩)))
/-- enumerate's next pair, by what the inner iterator does -/
theorem enum_more {Q : Option Value → Shared → Prop} {k : Int} (he : IsEnum s.heap e it k old)
    (inner : ∀ {A : Around} {E : Value → Shared → Prop} {Q : Value → Shared → Prop}, (∀ h', Heap.SameBut it s.heap h' → h'.IsTupleIter it t (i + 1) → Q x { s with heap := h' }) → wpAny (model P w) A (Builtin.SmallTypes.nextOf (.ref it)) Q E s) (ne : e ≠ it)
    (q : ∀ h', IsEnumOut h' e it (k + 1) x s.heap.objs.size → h'.IsTupleIter it t (i + 1) → h'.get? s.heap.objs.size = some { cls := .type "tuple", data := .seq #[.int k s.toks, x] } →
      (∀ b o, b ≠ e → b ≠ it → s.heap.get? b = some o → h'.get? b = some o) → Q (some (.ref s.heap.objs.size)) { s with heap := h', toks := s.toks + 1 }) : wpAny (model P w) A (pyNext (.ref e)) Q E s := by
  have ty : s.TypeIs (.ref e) "enumerate" := ⟨_, he, rfl⟩
  have le : e < s.heap.objs.size := Heap.lt_size he
  unfold pyNext
  refine wpAny_bind (wpAny_attempt (wpAny_callSpecial?_slot (name := Str.ofString "__next__") ty F.slot_enumerate_next (wpAny_call_entry F.slot_enumerate_next ty F.entry_enumerate_next ?_ (F.args_enumerate_next_1 _))))
  obtain ⟨h0, gs, dr, tk, os⟩ := s
  refine (wpAny_bind (wpAny_field he rfl (x := .ref it) rfl ?_) : wpAny _ _ (field (.ref e) 2 >>= _) _ _ _)
  refine wpAny_bind (inner fun h1 s1 i1 => ?_)
  have s1 : Heap.SameBut it h0 h1 := s1
  have e1 : IsEnum h1 e it k old := (s1.2 e ne).trans he
  refine (wpAny_bind (wpAny_field e1 rfl (x := rawInt k) rfl ?_) : wpAny _ _ (field (.ref e) 3 >>= _) _ _ ⟨h1, gs, dr, tk, os⟩)
  refine (wpAny_bind (wpAny_field e1 rfl (x := .none) rfl ?_) : wpAny _ _ (field (.ref e) 4 >>= _) _ _ ⟨h1, gs, dr, tk, os⟩)
  refine (wpAny_bind (wpAny_mkInt ?_) : wpAny _ _ (mkInt k >>= _) _ _ ⟨h1, gs, dr, tk, os⟩)
  refine (wpAny_bind (wpAny_setField_rec e1 (by simp) fun h2 (e2 : IsEnum h2 e it (k + 1) old) (s2 : Heap.SameBut e h1 h2) => ?_) : wpAny _ _ (setField (.ref e) 3 (rawInt (k + 1)) >>= _) _ _ ⟨h1, gs, dr, tk + 1, os⟩)
  refine (wpAny_bind (wpAny_setField_rec e2 (by simp) fun h3 (e3 : IsEnum h3 e it (k + 1) old) (s3 : Heap.SameBut e h2 h3) => ?_) : wpAny _ _ (setField (.ref e) 4 .none >>= _) _ _ ⟨h2, gs, dr, tk + 1, os⟩)
  refine (wpAny_bind (wpAny_newTuple ?_) : wpAny _ _ (newTuple [.int k tk, x] >>= _) _ _ ⟨h3, gs, dr, tk + 1, os⟩)
  let tp : Obj := { cls := .type "tuple", data := .seq #[.int k tk, x] }
  have z3 : h3.objs.size = h0.objs.size := by rw [s3.1, s2.1, s1.1]
  have e4 : IsEnum (h3.push tp) e it (k + 1) old := Heap.get?_push_of_some _ e3
  have t4 : (h3.push tp).get? h0.objs.size = some tp := by rw [← z3]; exact Heap.get?_push_size _ rfl
  have k4 : ∀ b o, b ≠ e → b ≠ it → h0.get? b = some o → (h3.push tp).get? b = some o := fun b o n1 n2 hb => Heap.get?_push_of_some _ (s3.extBut b o n1 (s2.extBut b o n1 (s1.extBut b o n2 hb)))
  have i4 : (h3.push tp).IsTupleIter it t (i + 1) := by
    obtain ⟨o, ho, r⟩ := (i1.extBut s2.extBut (Ne.symm ne)).extBut s3.extBut (Ne.symm ne)
    exact ⟨o, Heap.get?_push_of_some _ ho, r⟩
  have nz : h0.objs.size ≠ e := Nat.ne_of_gt le
  show wpAny _ _ (Builtin.SmallTypes.ownedTupleIsFree (.ref e) >>= _) _ _ ⟨h3.push tp, gs, dr, tk + 1, os⟩; rw [z3]
  refine wpAny_bind ?_
  unfold Builtin.SmallTypes.ownedTupleIsFree
  refine wpAny_bind (wpAny_field e4 rfl (x := .none) rfl (wpAny_pure ?_))
  simp only [if_true]
  refine wpAny_bind (wpAny_rule (wpAny_bind (wpAny_field e4 rfl (x := old) rfl (wpAny_bind (wpAny_setField_rec e4 (by simp) fun h5 (e5 : IsEnum h5 e it (k + 1) x) (s5 : Heap.SameBut e (h3.push tp) h5) => ?_)))))
  refine (wpAny_bind ?_ : wpAny _ _ (Builtin.SmallTypes.ownedTupleHandOut (.ref e) (.ref h0.objs.size) >>= _) _ _ ⟨h5, gs, dr, tk + 1, os⟩)
  unfold Builtin.SmallTypes.ownedTupleHandOut
  refine wpAny_bind (wpAny_setField_rec e5 (by simp) fun h6 (e6 : IsEnumOut h6 e it (k + 1) x h0.objs.size) (s6 : Heap.SameBut e h5 h6) => ?_)
  refine wpAny_setField_rec e6 (by simp) fun h7 (e7 : IsEnumOut h7 e it (k + 1) x h0.objs.size) (s7 : Heap.SameBut e h6 h7) => ?_
  refine wpAny_bind (wpAny_letGo (wpAny_pure ⟨_, rfl, wpAny_pure (q h7 e7 ?_ ?_ ?_)⟩))
  · exact ((i4.extBut s5.extBut (Ne.symm ne)).extBut s6.extBut (Ne.symm ne)).extBut s7.extBut (Ne.symm ne)
  · exact s7.extBut _ _ nz (s6.extBut _ _ nz (s5.extBut _ _ nz t4))
  · exact fun b o n1 n2 hb => s7.extBut b o n1 (s6.extBut b o n1 (s5.extBut b o n1 (k4 b o n1 n2 hb)))
theorem enum_over {Q : Option Value → Shared → Prop} {k : Int} (hh : A.handled = none) (he : IsEnum s.heap e it k old) (hi : s.heap.IsTupleIter it t i) (ht : s.heap.IsTuple t its) (hx : its[i]? = none) (q : ∀ h', Heap.ExtBut it s.heap h' → Q none { s with heap := h' }) : wpAny (model P w) A (pyNext (.ref e)) Q E s := by
  have ty : s.TypeIs (.ref e) "enumerate" := ⟨_, he, rfl⟩
  unfold pyNext
  refine wpAny_bind (wpAny_attempt (wpAny_callSpecial?_slot (name := Str.ofString "__next__") ty F.slot_enumerate_next (wpAny_call_entry F.slot_enumerate_next ty F.entry_enumerate_next ?_ (F.args_enumerate_next_1 _))))
  refine (wpAny_bind (wpAny_field he rfl (x := .ref it) rfl ?_) : wpAny _ _ (field (.ref e) 2 >>= _) _ _ _)
  refine wpAny_bind (tup_over hh hi ht hx fun h' b hb ⟨o, ho, hc⟩ => ?_)
  exact wpAny_bind (wpAny_isInstance (T := "StopIteration") (b := true) ⟨o, ho, hc⟩ isSubtype_stop (wpAny_pure (q _ hb)))
theorem meets_enum_tup (t : Addr) (its : Array Value) (n : Nat) (dc : Option Addr) (sl : Array (Option Value)) : Meets (Builtin.«enumerate.__new__» ⟨[.type "enumerate", .ref t], []⟩) (fun _ R s => s.heap.get? t = some { cls := .type "tuple", dict := dc, data := .seq its n, slots := sl } ∧
    R (.ok (.ret (.ref (s.heap.push { cls := .type "tuple_iterator", data := .fields #[.ref t, .int 0 0] }).objs.size))) { s with heap := (s.heap.push { cls := .type "tuple_iterator", data := .fields #[.ref t, .int 0 0] }).push { cls := .type "enumerate", data := .fields #[.none, .bool false, .ref s.heap.objs.size, rawInt 0, .none, .none] } }) := by
  refine .of_wp fun prog w A R s h => ?_
  obtain ⟨h0, gs, dr, tk, os⟩ := s
  obtain ⟨ht, fin⟩ := h
  have sub := sub_enumerate
  have T : Heap.IsTuple (Shared.heap ⟨h0, gs, dr, tk, os⟩) t its := ⟨_, ht, rfl, n, rfl⟩
  wp_walk using AutoSeq1.wpAny_loadPart' ht
  refine wpAny_stack_any fun st => wpAny_pure ?_
  split
  · rename_i c _ _ _ _ _
    cases (c == Value.type "enumerate") <;> (wp_walk using AutoSeq1.wpAny_loadPart' ht, wpAny_pyIter_tuple T; exact ⟨_, rfl, fin⟩)
  · wp_walk using AutoSeq1.wpAny_loadPart' ht, wpAny_pyIter_tuple T
    exact ⟨_, rfl, fin⟩
theorem call_enum_tup {Q : Value → Shared → Prop} (T : s.heap.IsTuple t its) (q : ∀ h', IsEnum h' (s.heap.objs.size + 1) s.heap.objs.size 0 .none → h'.IsTupleIter s.heap.objs.size t 0 → (∀ b o, s.heap.get? b = some o → h'.get? b = some o) → Q (.ref (s.heap.objs.size + 1)) { s with heap := h' }) :
    wpAny (model P w) A (call (.type "enumerate") [.ref t]) Q E s := by
  obtain ⟨⟨cl, dc, da, sl⟩, ht, hc, n, hd⟩ := T
  dsimp only at hc hd
  subst hc hd
  let o1 : Obj := { cls := .type "tuple_iterator", data := .fields #[.ref t, .int 0 0] }
  let o2 : Obj := { cls := .type "enumerate", data := .fields #[.none, .bool false, .ref s.heap.objs.size, rawInt 0, .none, .none] }
  have z : (s.heap.push o1).objs.size = s.heap.objs.size + 1 := Heap.size_push ..
  have he : IsEnum ((s.heap.push o1).push o2) (s.heap.objs.size + 1) s.heap.objs.size 0 .none := by
    have := Heap.get?_push_size (s.heap.push o1) (o := o2) rfl
    rw [z] at this; exact this
  refine callType_new F.called_enumerate (by decide) (F.typeCall_enumerate_1 _) (F.newCall_enumerate_1 _) (fun o => F.args_object_init_2 o _) F.entry_enumerate_new (meets_enum_tup t its n dc sl) ⟨ht, ?_⟩
  show _ ∧ _; rw [z]
  exact ⟨⟨_, he, rfl⟩, q _ he ⟨_, Heap.get?_push_of_some _ (Heap.get?_push_size _ rfl), rfl, rfl⟩ fun b o h => Heap.get?_push_of_some _ (Heap.get?_push_of_some _ h)⟩
end
/-- the pairs of a tuple that stands -/
def IteT (K : PySem.W.Frag) (a : Addr) : It :=
  ⟨fun i H => ∃ (xs : List V) (x : V), SqT K H a xs ∧ xs[i]? = some x, fun i H v H' => ∃ T x, v = .ref T ∧ H T = none ∧ H' = upd H T (.tup [.int (i : Nat), x]) ∧ ∀ xs, SqT K H a xs → xs[i]? = some x, fun i H => ∃ xs : List V, SqT K H a xs ∧ xs.length ≤ i⟩
theorem asTuple {h : Heap} {a : Addr} {its : Array Value} (p : IsTup h a its) : h.IsTuple a its := by
  obtain ⟨o, ho, hc, n, hd⟩ := p
  exact ⟨o, ho, hc, n, hd⟩
theorem turn_enumT {P : Program} {w : World} {K : PySem.W.Frag} {elts : List Expr} {kk : Nat} {tp : Pos} (a e it : Addr) : Turn P w K (.Tuple elts kk tp) (IteT K a) [e, it] e (fun i h => (∃ old, IsEnum h e it ((i : Nat) : Int) old) ∧ h.IsTupleIter it a i ∧ e ≠ it) where
  mem := by simp
  obj := fun i h ⟨⟨old, he⟩, ⟨o, ho, hc, hd⟩, _⟩ b hb => by
    rcases List.mem_cons.mp hb with rfl | hb
    · exact ⟨_, he, fun v q => nomatch q⟩
    · rw [List.mem_singleton.mp hb]
      exact ⟨o, ho, fun v q => by rw [hd] at q; cases q⟩
  keep := fun i h h' ⟨⟨old, he⟩, ⟨o, ho, r⟩, ne⟩ k => ⟨⟨old, k e (by simp) _ he⟩, ⟨o, k it (by simp) o ho, r⟩, ne⟩
  item := by
    intro X hP hw hK hc i pins s σ H E I hf ⟨⟨old, he⟩, hi, ne⟩ ⟨xs, x, hq, hx⟩
    subst hP hw hK
    obtain ⟨its, rv, p, hz⟩ := I.tuple hq
    obtain ⟨u, hu, ru⟩ := rv.get hx
    have le : e < s.heap.objs.size := Heap.lt_size he
    have li : it < s.heap.objs.size := by obtain ⟨_, q, _⟩ := hi; exact Heap.lt_size q
    refine enum_more (t := a) (i := i) (x := u) he (fun q => tup_more hi (asTuple p) (by simpa using hu) fun h' a b => q h' b a) ne fun h' ho hi' hT hk => ⟨_, rfl, ?_⟩
    refine wpAny_letOwnedTupleGo_enum (s := { s with heap := h', toks := s.toks + 1 }) ho fun h2 he2 sb => ?_
    have T2 : h2.get? s.heap.objs.size = some { cls := .type "tuple", data := .seq #[.int i s.toks, u] } := (sb.2 _ (Nat.ne_of_gt le)).trans hT
    have apart : ∀ {b : Addr}, ¬ b ∈ [e, it] → b ≠ e ∧ b ≠ it := fun {b} hb => by simpa using hb
    have I1 : Inv X pins σ (upd H s.heap.objs.size (.tup [.int (i : Nat), x])) { s with heap := h2, toks := s.toks + 1 } :=
      I.turnedNew (ch := [e, it]) (fun b o hb q => (sb.2 b (apart hb).1).trans (hk b o (apart hb).1 (apart hb).2 q)) hf (Nat.le_refl _) ⟨(by decide : 2 ≤ sizeLine), [.int i s.toks, u], .cons ⟨_, rfl⟩ (.cons ru .nil), ⟨_, T2, rfl, _, rfl⟩⟩
    refine ⟨.ref s.heap.objs.size, _, I1, rfl, ⟨_, x, rfl, I.hok.fresh (Nat.le_refl _), rfl, fun ys hy => by rw [I.tuple_inj hy hq]; exact hx⟩, ⟨⟨u, ?_⟩, ?_, ne⟩, fun b hb => ?_⟩
    · rw [show ((i + 1 : Nat) : Int) = (i : Int) + 1 by omega]; exact he2
    · obtain ⟨o, ho2, r⟩ := hi'
      exact ⟨o, (sb.2 it (Ne.symm ne)).trans ho2, r⟩
    · have lb : b < s.heap.objs.size := by
        rcases List.mem_cons.mp hb with rfl | hb
        · exact le
        · rw [List.mem_singleton.mp hb]; exact li
      rw [upd_ne (Nat.ne_of_lt lb)]
      exact (hf b hb).1
  done := by
    intro X hP hw hK hc i pins s σ H E I hf ⟨⟨old, he⟩, hi, ne⟩ ⟨xs, hq, hx⟩
    subst hP hw hK
    obtain ⟨its, rv, p, hz⟩ := I.tuple hq
    obtain ⟨f0, f1, f2, f3, f4, f5⟩ := hf it (by simp)
    have ln := rv.length
    exact enum_over (I.ok.hd hc) he hi (asTuple p) (by simp; omega) fun h' eb => ⟨rfl, I.turned (t' := s.toks) (fun b o hb q => eb b o hb q) f0 f1 f3 f4 f5⟩
  self := fun A i s Q E ⟨⟨_, he⟩, _⟩ h => wpAny_pyIter_enum he h
/-- enumerate of a list or of a tuple -/
def iEnumA (K : PySem.W.Frag) (ta : TA) : TI := fun σ H R => ta σ H fun vs H1 => ∃ a, vs = [.ref a] ∧ ((∃ xs, SqL K H1 a xs ∧ R (Ite K a) H1) ∨ (∃ xs, SqT K H1 a xs ∧ R (IteT K a) H1))
theorem pi_enumA {X : Cx} {e : Expr} {ta : TA} {p pos tp : Pos} {elts : List Expr} {kk : Nat} (hg : Gl X "enumerate") (hm : X.mg "enumerate" = none) (ha : PA X [e] ta) (hs : starEach [e] X.env = [(false, eval e X.env)] := by rfl) : PI X (.Tuple elts kk tp) (.Call (.Name "enumerate" p) [e] [] pos) (iEnumA X.K ta) := by
  refine ⟨fun pins s σ H R I h => Call_ (ld_blt I hg hm boot_enumerate (PyProof.Rows.callWith_type1 (thn (ha.run pos pins s σ H _ I h) fun us s1 ⟨vs, H1, I1, r1, a, ex, q⟩ => ?_) hs rfl))⟩
  subst ex
  obtain rfl : us = [Value.ref a] := by
    cases r1 with
    | cons r rr => cases rr; cases r; rfl
  have fp : ∀ b ∈ [s1.heap.objs.size + 1, s1.heap.objs.size], FpOk X pins H1 b := fun b hb => by
    have le : s1.heap.objs.size ≤ b := by
      rcases List.mem_cons.mp hb with rfl | hb
      · exact Nat.le_add_right _ _
      · rw [List.mem_singleton.mp hb]; exact Nat.le_refl _
    exact I1.fpOk le (I1.hok.fresh le)
  rcases q with ⟨xs, hq, q⟩ | ⟨xs, hq, q⟩
  · obtain ⟨its, rv, pl, hz⟩ := I1.list hq
    refine call_enumerate_list pl.isList fun h' he hit _ hk => wpAny_pyIter_enum he ?_
    exact ⟨s1.heap.objs.size + 1, [s1.heap.objs.size + 1, s1.heap.objs.size], _, _, H1, rfl, I1.kept (t' := s1.toks) hk, turn_enum a (s1.heap.objs.size + 1) s1.heap.objs.size, ⟨⟨.none, he⟩, hit, Nat.succ_ne_self _⟩, fp, q⟩
  · obtain ⟨its, rv, pl, hz⟩ := I1.tuple hq
    refine call_enum_tup (asTuple pl) fun h' he hit hk => wpAny_pyIter_enum he ?_
    exact ⟨s1.heap.objs.size + 1, [s1.heap.objs.size + 1, s1.heap.objs.size], _, _, H1, rfl, I1.kept (t' := s1.toks) hk, turn_enumT a (s1.heap.objs.size + 1) s1.heap.objs.size, ⟨⟨.none, he⟩, hit, Nat.succ_ne_self _⟩, fp, q⟩
end J

namespace J
open PySem PySem.Spec PyProof.Rows L2

/-! ## data -/
inductive D where
  | non
  | bl (b : Bool)
  | int (i : Int)
  | str (x : Str)
  | tup (l : List D)
  | lst (l : List D)
  | dic (l : List (D × D))
  | ins (c : Str) (fs : List (Str × D))
  | deal (g : List Int) (s : Int)
  | scr (ns : List Int)
  | dealA (l : Addr) (s : Int)
  deriving Inhabited

def keyD : Key → D
  | .inl i => .int i
  | .inr x => .str x

section
variable (K : PySem.W.Frag) (mg : Str → Option Value)
mutual
inductive Rep (F : Hp) : V → D → Prop
  | non : Rep F .non .non
  | bl (b) : Rep F (.bl b) (.bl b)
  | int (i) : Rep F (.int i) (.int i)
  | str (x) : Rep F (.str x) (.str x)
  | tup {a vs ds} (h : SqT K F a vs) (r : Reps F vs ds) : Rep F (.ref a) (.tup ds)
  | lst {a vs ds} (h : F a = some (.lst vs)) (r : Reps F vs ds) : Rep F (.ref a) (.lst ds)
  | dic {a kvs ds} (h : F a = some (.dK kvs)) (r : RepK F kvs ds) : Rep F (.ref a) (.dic ds)
  | ins {a C dx fs c ds} (h : F a = some (.ins C dx fs)) (hc : mg c = some (.ref C)) (r : RepF F fs ds) : Rep F (.ref a) (.ins c ds)
  | scr {a ns} (h : SqL K F a (ns.map V.int)) : Rep F (.ref a) (.scr ns)
inductive Reps (F : Hp) : List V → List D → Prop
  | nil : Reps F [] []
  | cons {v d vs ds} (r : Rep F v d) (t : Reps F vs ds) : Reps F (v :: vs) (d :: ds)
inductive RepK (F : Hp) : List (Key × V) → List (D × D) → Prop
  | nil : RepK F [] []
  | cons {k v d kvs ds} (r : Rep F v d) (t : RepK F kvs ds) : RepK F ((k, v) :: kvs) ((keyD k, d) :: ds)
inductive RepF (F : Hp) : List (Str × V) → List (Str × D) → Prop
  | nil : RepF F [] []
  | cons {f v d fs ds} (r : Rep F v d) (t : RepF F fs ds) : RepF F ((f, v) :: fs) ((f, d) :: ds)
end
end

theorem SqT.up {K : PySem.W.Frag} {F F' : Hp} {a : Addr} {xs : List V} (h : SqT K F a xs) (e : Same F F') : SqT K F' a xs := by
  rcases h with (h | ⟨o, h⟩) | h
  · exact .inl (.inl (e _ _ h))
  · exact .inl (.inr ⟨o, e _ _ h⟩)
  · exact .inr h
theorem SqL.up {K : PySem.W.Frag} {F F' : Hp} {a : Addr} {xs : List V} (h : SqL K F a xs) (e : Same F F') : SqL K F' a xs := by
  rcases h with (h | ⟨o, h⟩) | h
  · exact .inl (.inl (e _ _ h))
  · exact .inl (.inr ⟨o, e _ _ h⟩)
  · exact .inr h

section
variable {K : PySem.W.Frag} {mg : Str → Option Value} {F F' H H' : Hp}
mutual
theorem Rep.up (e : Same F F') : ∀ {v d}, Rep K mg F v d → Rep K mg F' v d
  | _, _, .non => .non
  | _, _, .bl b => .bl b
  | _, _, .int b => .int b
  | _, _, .str b => .str b
  | _, _, .tup h r => .tup (SqT.up h e) (Reps.up e r)
  | _, _, .lst h r => .lst (e _ _ h) (Reps.up e r)
  | _, _, .dic h r => .dic (e _ _ h) (RepK.up e r)
  | _, _, .ins h hc r => .ins (e _ _ h) hc (RepF.up e r)
  | _, _, .scr h => .scr (SqL.up h e)
theorem Reps.up (e : Same F F') : ∀ {v d}, Reps K mg F v d → Reps K mg F' v d
  | _, _, .nil => .nil
  | _, _, .cons r t => .cons (Rep.up e r) (Reps.up e t)
theorem RepK.up (e : Same F F') : ∀ {v d}, RepK K mg F v d → RepK K mg F' v d
  | _, _, .nil => .nil
  | _, _, .cons r t => .cons (Rep.up e r) (RepK.up e t)
theorem RepF.up (e : Same F F') : ∀ {v d}, RepF K mg F v d → RepF K mg F' v d
  | _, _, .nil => .nil
  | _, _, .cons r t => .cons (Rep.up e r) (RepF.up e t)
end
theorem Reps.length {vs : List V} {ds : List D} (r : Reps K mg F vs ds) : vs.length = ds.length := by
  induction vs generalizing ds with
  | nil => cases r; rfl
  | cons v vs ih =>
    cases r with
    | cons r t => simp [ih t]
theorem Reps.get {vs : List V} {ds : List D} (r : Reps K mg F vs ds) {i : Nat} {d : D} (h : ds[i]? = some d) : ∃ v, vs[i]? = some v ∧ Rep K mg F v d := by
  induction vs generalizing ds i with
  | nil => cases r; simp at h
  | cons v vs ih =>
    cases r with
    | cons r t =>
      cases i with
      | zero => simp at h; subst h; exact ⟨v, rfl, r⟩
      | succ i => simpa using ih t (by simpa using h)
theorem Reps.get' {vs : List V} {ds : List D} (r : Reps K mg F vs ds) {i : Nat} {v : V} (h : vs[i]? = some v) : ∃ d, ds[i]? = some d ∧ Rep K mg F v d := by
  have hi : i < ds.length := by
    rw [← r.length]
    exact (List.getElem?_eq_some_iff.mp h).1
  obtain ⟨v', hv, q⟩ := r.get (List.getElem?_eq_getElem hi)
  rw [h] at hv; cases hv
  exact ⟨_, List.getElem?_eq_getElem hi, q⟩
theorem Reps.append {vs ws : List V} {ds es : List D} (r : Reps K mg F vs ds) (q : Reps K mg F ws es) : Reps K mg F (vs ++ ws) (ds ++ es) := by
  induction vs generalizing ds with
  | nil => cases r; exact q
  | cons v vs ih =>
    cases r with
    | cons r t => exact .cons r (ih t)
theorem Reps.take {vs : List V} {ds : List D} (r : Reps K mg F vs ds) (n : Nat) : Reps K mg F (vs.take n) (ds.take n) := by
  induction vs generalizing ds n with
  | nil => cases r; simp; exact .nil
  | cons v vs ih =>
    cases r with
    | cons r t =>
      cases n with
      | zero => exact .nil
      | succ n => exact .cons r (ih t n)
theorem Reps.drop {vs : List V} {ds : List D} (r : Reps K mg F vs ds) (n : Nat) : Reps K mg F (vs.drop n) (ds.drop n) := by
  induction vs generalizing ds n with
  | nil => cases r; simp; exact .nil
  | cons v vs ih =>
    cases r with
    | cons r t =>
      cases n with
      | zero => exact .cons r t
      | succ n => exact ih t n
theorem Reps.rev {vs : List V} {ds : List D} (r : Reps K mg F vs ds) : Reps K mg F vs.reverse ds.reverse := by
  induction vs generalizing ds with
  | nil => cases r; exact .nil
  | cons v vs ih =>
    cases r with
    | cons r t =>
      rw [List.reverse_cons, List.reverse_cons]
      exact (ih t).append (.cons r .nil)
theorem Reps.erase {vs : List V} {ds : List D} (r : Reps K mg F vs ds) (n : Nat) : Reps K mg F (vs.eraseIdx n) (ds.eraseIdx n) := by
  rw [List.eraseIdx_eq_take_drop_succ, List.eraseIdx_eq_take_drop_succ]
  exact (r.take n).append (r.drop (n + 1))
theorem Reps.set {vs : List V} {ds : List D} (r : Reps K mg F vs ds) {v : V} {d : D} (q : Rep K mg F v d) (n : Nat) : Reps K mg F (vs.set n v) (ds.set n d) := by
  induction vs generalizing ds n with
  | nil => cases r; exact .nil
  | cons w vs ih =>
    cases r with
    | cons r t =>
      cases n with
      | zero => exact .cons q t
      | succ n => exact .cons r (ih t n)
theorem Reps.ints : ∀ ns : List Int, Reps K mg F (ns.map V.int) (ns.map D.int)
  | [] => .nil
  | n :: ns => .cons (.int n) (Reps.ints ns)
theorem Reps.strs : ∀ ns : List Str, Reps K mg F (ns.map V.str) (ns.map D.str)
  | [] => .nil
  | n :: ns => .cons (.str n) (Reps.strs ns)
end

/-- owned: a mutable thing that nothing else holds; A: where it stands -/
inductive Own (K : PySem.W.Frag) (mg : Str → Option Value) (F H : Hp) : V → D → List Addr → Prop
  | lst {a vs ds} (f : F a = none) (h : H a = some (.lst vs)) (r : Reps K mg F vs ds) : Own K mg F H (.ref a) (.lst ds) [a]
  | dic {a kvs ds} (f : F a = none) (h : H a = some (.dK kvs)) (r : RepK K mg F kvs ds) : Own K mg F H (.ref a) (.dic ds) [a]
  | ins {a C dx fs c ds} (f : F a = none) (h : H a = some (.ins C dx fs)) (hc : mg c = some (.ref C)) (r : RepF K mg F fs ds) : Own K mg F H (.ref a) (.ins c ds) [a]
  | deal {a l gs s} (fa : F a = none) (fl : F l = none) (h : H a = some (.dK [(Sum.inr "great", .ref l), (Sum.inr "stirred", .int s)])) (hl : H l = some (.lst (gs.map V.int))) : Own K mg F H (.ref a) (.deal gs s) [a, l]
  | dealA {a l s} (fa : F a = none) (h : H a = some (.dK [(Sum.inr "great", .ref l), (Sum.inr "stirred", .int s)])) : Own K mg F H (.ref a) (.dealA l s) [a]

theorem Own.up {K : PySem.W.Frag} {mg : Str → Option Value} {F F' H H' : Hp} {v : V} {d : D} {A : List Addr} (o : Own K mg F H v d A) (e : Same F F') (f : ∀ a ∈ A, F' a = none) (h : ∀ a ∈ A, H' a = H a) : Own K mg F' H' v d A := by
  cases o with
  | lst fa ha r => exact .lst (f _ (by simp)) ((h _ (by simp)).trans ha) (r.up e)
  | dic fa ha r => exact .dic (f _ (by simp)) ((h _ (by simp)).trans ha) (r.up e)
  | ins fa ha hc r => exact .ins (f _ (by simp)) ((h _ (by simp)).trans ha) hc (r.up e)
  | deal fa fl ha hl => exact .deal (f _ (by simp)) (f _ (by simp)) ((h _ (by simp)).trans ha) ((h _ (by simp)).trans hl)
  | dealA fa ha => exact .dealA (f _ (by simp)) ((h _ (by simp)).trans ha)
theorem Own.there {K : PySem.W.Frag} {mg : Str → Option Value} {F H : Hp} {v : V} {d : D} {A : List Addr} (o : Own K mg F H v d A) : ∀ a ∈ A, F a = none ∧ ∃ u, H a = some u := by
  intro b hb
  cases o with
  | lst fa ha r => simp at hb; subst hb; exact ⟨fa, _, ha⟩
  | dic fa ha r => simp at hb; subst hb; exact ⟨fa, _, ha⟩
  | ins fa ha hc r => simp at hb; subst hb; exact ⟨fa, _, ha⟩
  | deal fa fl ha hl =>
    simp at hb
    rcases hb with rfl | rfl
    · exact ⟨fa, _, ha⟩
    · exact ⟨fl, _, hl⟩
  | dealA fa ha => simp at hb; subst hb; exact ⟨fa, _, ha⟩

/-! ## slots -/
inductive Slot where
  | no | val (d : D) | own (d : D) | io (d : D) | lent (d : D) | lown (d : D) | lio (d : D)
  deriving Inhabited
abbrev Env := List Slot

structure Gh where
  K : PySem.W.Frag
  mg : Str → Option Value
  H0 : Hp
  F0 : Hp
  IO : List (Nat × V × List Addr)
  LK : List (Nat × V × Slot)
  KP : List (Addr × HO)
def Gh.at (g : Gh) (a : Addr) : Prop := ∃ p ∈ g.IO, a ∈ p.2.2

def SlotOk (g : Gh) (F H : Hp) (i : Nat) : Option Slot → Option (Option V) → List Addr → Prop
  | none, _, A => A = []
  | some .no, _, A => A = []
  | some (.val d), v, A => A = [] ∧ ∃ x, v = some (some x) ∧ Rep g.K g.mg F x d
  | some (.own d), v, A => ∃ x, v = some (some x) ∧ Own g.K g.mg F H x d A ∧ ∀ a ∈ A, g.H0 a = none
  | some (.lown d), v, A => ∃ x, v = some (some x) ∧ Own g.K g.mg F H x d A ∧ ∀ a ∈ A, g.H0 a = none
  | some (.io d), v, A => ∃ x, v = some (some x) ∧ Own g.K g.mg F H x d A ∧ (i, x, A) ∈ g.IO
  | some (.lio d), v, A => ∃ x, v = some (some x) ∧ Own g.K g.mg F H x d A ∧ (i, x, A) ∈ g.IO
  | some (.lent d), v, A => ∃ x, v = some (some x) ∧ ((A = [] ∧ Rep g.K g.mg F x d) ∨ Own g.K g.mg F H x d A)

def Holds (ρ : Env) (i : Nat) : Prop := ∃ d, ρ[i]? = some (.own d) ∨ ρ[i]? = some (.io d) ∨ ρ[i]? = some (.lown d) ∨ ρ[i]? = some (.lio d)

/-- what may be stored to -/
def Slot.open : Slot → Bool
  | .lent _ => false
  | .lown _ => false
  | .lio _ => false
  | _ => true
def Locked (ρ : Env) (i : Nat) (s : Slot) : Prop := ρ[i]? = some s ∧ s.open = false
structure Slots (g : Gh) (F H : Hp) (ρ : Env) (σ : L2.St) (fp : Nat → List Addr) : Prop where
  ok : ∀ i, SlotOk g F H i ρ[i]? σ[i]? (fp i)
  sep : ∀ i j a, i ≠ j → Holds ρ i → a ∈ fp i → a ∉ fp j
  kp : ∀ p ∈ g.KP, ∀ i, p.1 ∉ fp i

structure EnvOk (g : Gh) (F H : Hp) (ρ : Env) (σ : L2.St) : Prop where
  sub : Same F H
  low : Same g.F0 F
  new : ∀ a o, F a = some o → g.F0 a = some o ∨ g.H0 a = none
  kept : ∀ a o, g.H0 a = some o → ¬ g.at a → H a = some o
  io : ∀ a, g.at a → F a = none ∧ ∃ o, H a = some o
  ioH0 : ∀ {a}, g.at a → g.H0 a ≠ none
  lk : ∀ i x s, (i, x, s) ∈ g.LK → σ[i]? = some (some x) ∧ Locked ρ i s
  lk2 : ∀ i s, Locked ρ i s → ∃ x, (i, x, s) ∈ g.LK
  kpH : ∀ p ∈ g.KP, H p.1 = some p.2 ∧ F p.1 = none
  len : ρ.length = σ.length
  fps : ∃ fp, Slots g F H ρ σ fp

/-- an extension by new things -/
structure New (F H F' H' : Hp) : Prop where
  uF : Same F F'
  uH : Same H H'
  sub : Same F' H'
  new : ∀ a o, F' a = some o → F a = some o ∨ H a = none

theorem New.refl {F H : Hp} (s : Same F H) : New F H F H := ⟨.refl _, .refl _, s, fun _ _ h => .inl h⟩

theorem SlotOk.fp {g : Gh} {F H : Hp} {i : Nat} {s : Option Slot} {v : Option (Option V)} {A : List Addr} (o : SlotOk g F H i s v A) : ∀ a ∈ A, F a = none ∧ ∃ u, H a = some u := by
  intro a ha
  cases s with
  | none => rw [show A = [] from o] at ha; simp at ha
  | some s =>
    cases s with
    | no => rw [show A = [] from o] at ha; simp at ha
    | val d => rw [show A = [] from o.1] at ha; simp at ha
    | own d => obtain ⟨x, _, q, _⟩ := o; exact q.there a ha
    | io d => obtain ⟨x, _, q, _⟩ := o; exact q.there a ha
    | lown d => obtain ⟨x, _, q, _⟩ := o; exact q.there a ha
    | lio d => obtain ⟨x, _, q, _⟩ := o; exact q.there a ha
    | lent d =>
      obtain ⟨x, _, q⟩ := o
      rcases q with ⟨e, _⟩ | q
      · rw [e] at ha; simp at ha
      · exact q.there a ha
theorem SlotOk.up {g : Gh} {F H F' H' : Hp} {i : Nat} {s : Option Slot} {v : Option (Option V)} {A : List Addr} (o : SlotOk g F H i s v A) (e : Same F F') (f : ∀ a ∈ A, F' a = none) (h : ∀ a ∈ A, H' a = H a) : SlotOk g F' H' i s v A := by
  cases s with
  | none => exact o
  | some s =>
    cases s with
    | no => exact o
    | val d => obtain ⟨e1, x, e2, r⟩ := o; exact ⟨e1, x, e2, r.up e⟩
    | own d => obtain ⟨x, e2, q, z⟩ := o; exact ⟨x, e2, q.up e f h, z⟩
    | io d => obtain ⟨x, e2, q, z⟩ := o; exact ⟨x, e2, q.up e f h, z⟩
    | lown d => obtain ⟨x, e2, q, z⟩ := o; exact ⟨x, e2, q.up e f h, z⟩
    | lio d => obtain ⟨x, e2, q, z⟩ := o; exact ⟨x, e2, q.up e f h, z⟩
    | lent d =>
      obtain ⟨x, e2, q⟩ := o
      rcases q with ⟨e1, r⟩ | q
      · exact ⟨x, e2, .inl ⟨e1, r.up e⟩⟩
      · exact ⟨x, e2, .inr (q.up e f h)⟩

theorem EnvOk.h0 {g : Gh} {F H : Hp} {ρ : Env} {σ : L2.St} (E : EnvOk g F H ρ σ) {a : Addr} (h : H a = none) : g.H0 a = none := by
  cases q : g.H0 a with
  | none => rfl
  | some o =>
    by_cases z : g.at a
    · obtain ⟨_, u, e⟩ := E.io a z
      rw [h] at e; cases e
    · rw [E.kept a o q z] at h; cases h

/-- what stands may change at the footprint of the slot i alone -/
theorem EnvOk.ext {g : Gh} {F H F' H' : Hp} {ρ : Env} {σ : L2.St} (E : EnvOk g F H ρ σ) (n : New F H F' H') : EnvOk g F' H' ρ σ := by
  have fr : ∀ a, F a = none → (∃ u, H a = some u) → F' a = none := fun a f ⟨u, h⟩ => by
    cases q : F' a with
    | none => rfl
    | some o =>
      rcases n.new a o q with z | z
      · rw [f] at z; cases z
      · rw [h] at z; cases z
  obtain ⟨fp, S⟩ := E.fps
  refine ⟨n.sub, E.low.trans n.uF, fun a o h => ?_, fun a o h z => n.uH _ _ (E.kept a o h z), fun a z => ?_, E.ioH0, E.lk, E.lk2, fun p hp => ?_, E.len, fp, fun i => ?_, S.sep, S.kp⟩
  · rcases n.new a o h with q | q
    · exact E.new a o q
    · exact .inr (E.h0 q)
  · obtain ⟨f, u, h⟩ := E.io a z
    exact ⟨fr a f ⟨u, h⟩, u, n.uH _ _ h⟩
  · obtain ⟨h, f⟩ := E.kpH p hp
    exact ⟨n.uH _ _ h, fr _ f ⟨_, h⟩⟩
  · have o := S.ok i
    exact o.up n.uF (fun a ha => fr a (o.fp a ha).1 (o.fp a ha).2) fun a ha => by
      obtain ⟨_, u, e⟩ := o.fp a ha
      rw [e, n.uH _ _ e]
end J

namespace J
open PySem PySem.Spec PyProof.Rows L2

inductive R (α : Type) where
  | ok (a : α) (ρ : Env)
  | exc (x : D) (ρ : Env)
  | no
abbrev SE := Env → R (Bool × D)
abbrev ST := Env → R Bool

def D.seals : D → Bool
  | .lst _ => true
  | .dic _ => true
  | .ins _ _ => true
  | _ => false

section
variable {g : Gh} {F H F' H' : Hp} {ρ : Env} {σ : L2.St} {i : Nat} {v : V} {d : D}

theorem setNe {α : Type} {l : List α} {i j : Nat} {x : α} (h : j ≠ i) : (l.set i x)[j]? = l[j]? := by
  rw [List.getElem?_set_ne (Ne.symm h)]

theorem Slots.other {fp : Nat → List Addr} (S : Slots g F H ρ σ fp) {s : Slot} {w : Option V} {F' H' : Hp} {A : List Addr} (hi : i < ρ.length) (hl : ρ.length = σ.length)
    (hs : SlotOk g F' H' i (some s) (some w) A) (oth : ∀ j, j ≠ i → SlotOk g F' H' j ρ[j]? σ[j]? (fp j))
    (hd : ∀ j a, j ≠ i → a ∈ A → a ∉ fp j) (hk : ∀ p ∈ g.KP, p.1 ∉ A) : Slots g F' H' (ρ.set i s) (σ.set i w) (fun j => if j = i then A else fp j) := by
  refine ⟨fun j => ?_, fun j k a njk hj ha hk => ?_, fun p hp j => ?_⟩
  rotate_left 2
  · by_cases e : j = i
    · simp only [if_pos e]; exact hk p hp
    · simp only [if_neg e]; exact S.kp p hp j
  · by_cases e : j = i
    · subst e
      rw [List.getElem?_set_self hi, List.getElem?_set_self (hl ▸ hi), if_pos rfl]
      exact hs
    · rw [setNe e, setNe e, if_neg e]
      exact oth j e
  · by_cases ej : j = i
    · subst ej
      simp only [if_pos rfl] at ha
      rw [if_neg (Ne.symm njk)] at hk
      exact hd k a (Ne.symm njk) ha hk
    · simp only [if_neg ej] at ha
      by_cases ek : k = i
      · subst ek
        simp only [if_pos rfl] at hk
        exact hd j a ej hk ha
      · simp only [if_neg ek] at hk
        refine S.sep j k a njk ?_ ha hk
        obtain ⟨d, hj⟩ := hj
        rw [setNe ej] at hj
        exact ⟨d, hj⟩

theorem SlotOk.upd1 {j : Nat} {s : Option Slot} {x : Option (Option V)} {A : List Addr} {a : Addr} {o : HO} (q : SlotOk g F H j s x A) (f : F a = none) (ha : a ∉ A) : SlotOk g (upd F a o) H j s x A :=
  q.up (fun b u e => by rw [upd_ne (ne_of_none e f)]; exact e) (fun b hb => by
    rw [upd_ne (fun z => ha (by rw [← z]; exact hb) : b ≠ a)]; exact (q.fp b hb).1) fun _ _ => rfl

theorem lockedSet {s t : Slot} {j : Nat} (hs : s.open = true) (h : Locked (ρ.set i s) j t) : Locked ρ j t := by
  obtain ⟨h, ht⟩ := h
  by_cases z : j = i
  · subst z
    by_cases hl : j < ρ.length
    · rw [List.getElem?_set_self hl] at h
      cases h
      rw [hs] at ht; cases ht
    · rw [List.getElem?_eq_none (by simpa using hl)] at h
      cases h
  · rw [setNe z] at h
    exact ⟨h, ht⟩
/-- an owned slot is let go of: what it holds stands from now on -/
theorem EnvOk.freeze (E : EnvOk g F H ρ σ) (h : ρ[i]? = some (.own d)) (hd : d.seals = true) : ∃ F', EnvOk g F' H (ρ.set i (.val d)) σ ∧ Same F F' := by
  obtain ⟨fp, S⟩ := E.fps
  have q := S.ok i
  rw [h] at q
  obtain ⟨x, hx, ow, h0⟩ := q
  have hi : i < ρ.length := (List.getElem?_eq_some_iff.mp h).1
  have key : ∀ (a : Addr) (o : HO), fp i = [a] → F a = none → H a = some o → Rep g.K g.mg (upd F a o) x d → ∃ F', EnvOk g F' H (ρ.set i (.val d)) σ ∧ Same F F' := by
    intro a o hA f ha r
    have hu : Same F (upd F a o) := fun b u e => by rw [upd_ne (ne_of_none e f)]; exact e
    have g0 : g.H0 a = none := h0 a (by rw [hA]; simp)
    refine ⟨upd F a o, ⟨fun b u e => ?_, E.low.trans hu, fun b u e => ?_, E.kept, fun b z => ?_, E.ioH0, fun j x' d' hj => ?_, fun j d' hj => E.lk2 j d' (lockedSet (s := .val d) rfl hj), fun p hp => ?_, by simpa using E.len, fun j => if j = i then [] else fp j, ?_⟩, hu⟩
    · by_cases z : b = a
      · subst z; rw [upd_same] at e; cases e; exact ha
      · rw [upd_ne z] at e; exact E.sub _ _ e
    · by_cases z : b = a
      · subst z; exact .inr g0
      · rw [upd_ne z] at e; exact E.new _ _ e
    · refine ⟨?_, (E.io b z).2⟩
      obtain ⟨p, hp, hb⟩ := z
      by_cases z : b = a
      · subst z
        exfalso
        have := E.io b ⟨p, hp, hb⟩
        -- the footprint of an io value stood at the entry or is an io's; an own slot's is none at the entry
        exact E.ioH0 ⟨p, hp, hb⟩ g0
      · rw [upd_ne z]; exact (E.io b ⟨p, hp, hb⟩).1
    · obtain ⟨e1, e2⟩ := E.lk j x' d' hj
      have nj : j ≠ i := fun z => by
        subst z
        obtain ⟨e2, e3⟩ := e2
        rw [h] at e2
        cases e2
        cases e3
      exact ⟨e1, by unfold Locked; rw [setNe nj]; exact e2⟩
    · obtain ⟨e1, e2⟩ := E.kpH p hp
      refine ⟨e1, ?_⟩
      have : p.1 ≠ a := fun z => S.kp p hp i (by rw [hA, z]; simp)
      rw [upd_ne this]; exact e2
    · have hσ : σ.set i (some x) = σ := by
        have : σ[i]? = some (some x) := hx
        exact List.ext_getElem? fun j => by
          by_cases z : j = i
          · subst z; rw [List.getElem?_set_self (by rw [← E.len]; exact hi), this]
          · rw [setNe z]
      have := S.other (s := .val d) (w := some x) (F' := upd F a o) (H' := H) (A := []) hi E.len ⟨rfl, x, rfl, r⟩ (fun j nj => (S.ok j).upd1 f fun hb => S.sep i j a (Ne.symm nj) ⟨d, .inl h⟩ (by rw [hA]; simp) hb) (fun _ _ _ z => by simp at z) (fun _ _ z => by simp at z)
      rw [hσ] at this
      exact this
  generalize hA : fp i = A at ow h0
  cases ow with
  | lst f ha r => exact key _ _ hA f ha (.lst upd_same (r.up fun b u e => by rw [upd_ne (ne_of_none e f)]; exact e))
  | dic f ha r => exact key _ _ hA f ha (.dic upd_same (r.up fun b u e => by rw [upd_ne (ne_of_none e f)]; exact e))
  | ins f ha hc r => exact key _ _ hA f ha (.ins upd_same hc (r.up fun b u e => by rw [upd_ne (ne_of_none e f)]; exact e))
  | deal _ _ _ _ => cases hd
  | dealA _ _ => cases hd

theorem EnvOk.lt (E : EnvOk g F H ρ σ) {s : Slot} (h : ρ[i]? = some s) : i < ρ.length := (List.getElem?_eq_some_iff.mp h).1
/-- the locks where the slot i is open -/
theorem EnvOk.lkSet (E : EnvOk g F H ρ σ) {t s : Slot} {w : Option V} (h : ρ[i]? = some t) (ho : t.open = true) : ∀ j x d, (j, x, d) ∈ g.LK → (σ.set i w)[j]? = some (some x) ∧ Locked (ρ.set i s) j d := fun j x d hj => by
  obtain ⟨e1, e2⟩ := E.lk j x d hj
  have nj : j ≠ i := fun z => by
    subst z
    obtain ⟨e2, e3⟩ := e2
    rw [h] at e2
    cases e2
    rw [ho] at e3; cases e3
  exact ⟨by rw [setNe nj]; exact e1, by unfold Locked; rw [setNe nj]; exact e2⟩
/-- a value that stands is put into a slot -/
theorem EnvOk.put {t : Slot} (E : EnvOk g F H ρ σ) (r : Rep g.K g.mg F v d) (h : ρ[i]? = some t) (ho : t.open = true) : EnvOk g F H (ρ.set i (.val d)) (σ.set i (some v)) := by
  obtain ⟨fp, S⟩ := E.fps
  exact ⟨E.sub, E.low, E.new, E.kept, E.io, E.ioH0, E.lkSet h ho, fun j d' hj => E.lk2 j d' (lockedSet (s := .val d) rfl hj), E.kpH, by simpa using E.len, _, S.other (A := []) (E.lt h) E.len ⟨rfl, v, rfl, r⟩ (fun j _ => S.ok j) (fun _ _ _ z => by simp at z) fun _ _ z => by simp at z⟩
theorem EnvOk.unset {t : Slot} (E : EnvOk g F H ρ σ) (h : ρ[i]? = some t) (ho : t.open = true) {w : Option V} : EnvOk g F H (ρ.set i .no) (σ.set i w) := by
  obtain ⟨fp, S⟩ := E.fps
  exact ⟨E.sub, E.low, E.new, E.kept, E.io, E.ioH0, E.lkSet h ho, fun j d' hj => E.lk2 j d' (lockedSet (s := .no) rfl hj), E.kpH, by simpa using E.len, _, S.other (A := []) (E.lt h) E.len rfl (fun j _ => S.ok j) (fun _ _ _ z => by simp at z) fun _ _ z => by simp at z⟩
theorem EnvOk.dropLast {s : Slot} {w : Option V} (E : EnvOk g F H (ρ ++ [s]) (σ ++ [w])) (ho : s.open = true := by rfl) : EnvOk g F H ρ σ := by
  obtain ⟨fp, S⟩ := E.fps
  have hl : ρ.length = σ.length := by simpa using E.len
  refine ⟨E.sub, E.low, E.new, E.kept, E.io, E.ioH0, fun j x d hj => ?_, fun j d hj => E.lk2 j d ?_, E.kpH, hl, fun j => if j < ρ.length then fp j else [], fun j => ?_, fun j k a n hj ha hk => ?_, fun p hp j => ?_⟩
  · obtain ⟨e1, e2⟩ := E.lk j x d hj
    have lj : j < ρ.length := by
      have l1 : j < (ρ ++ [s]).length := (List.getElem?_eq_some_iff.mp e2.1).1
      have l2 : j ≠ ρ.length := fun z => by
        subst z
        obtain ⟨e2, e3⟩ := e2
        rw [List.getElem?_append_right (Nat.le_refl _), Nat.sub_self] at e2
        have h := Option.some.inj e2
        subst h
        rw [ho] at e3; cases e3
      simp at l1; omega
    rw [List.getElem?_append_left (hl ▸ lj)] at e1
    unfold Locked at e2
    rw [List.getElem?_append_left lj] at e2
    exact ⟨e1, e2⟩
  · have lj : j < ρ.length := (List.getElem?_eq_some_iff.mp hj.1).1
    unfold Locked at hj ⊢
    rw [List.getElem?_append_left lj]
    exact hj
  rotate_left 2
  · by_cases z : j < ρ.length
    · simp only [if_pos z]; exact S.kp p hp j
    · simp only [if_neg z]; simp
  · have q := S.ok j
    by_cases z : j < ρ.length
    · rw [List.getElem?_append_left z, List.getElem?_append_left (hl ▸ z)] at q
      simp only [if_pos z]
      exact q
    · rw [List.getElem?_eq_none (by omega)]
      simp only [if_neg z]
      rfl
  · obtain ⟨d, hd⟩ := hj
    have z : j < ρ.length := by
      rcases hd with h | h | h | h <;> exact (List.getElem?_eq_some_iff.mp h).1
    simp only [if_pos z] at ha
    by_cases zk : k < ρ.length
    · simp only [if_pos zk] at hk
      exact S.sep j k a n ⟨d, by rw [List.getElem?_append_left z]; exact hd⟩ ha hk
    · simp only [if_neg zk] at hk
      simp at hk
/-- a fresh thing is put into a slot -/
theorem EnvOk.move {t : Slot} (E : EnvOk g F H (ρ ++ [.own d]) (σ ++ [some v])) (h : ρ[i]? = some t) (ho : t.open = true) : EnvOk g F H (ρ.set i (.own d)) (σ.set i (some v)) := by
  have hi : i < ρ.length := (List.getElem?_eq_some_iff.mp h).1
  obtain ⟨fp, S⟩ := E.fps
  have hl : ρ.length = σ.length := by simpa using E.len
  have q := S.ok ρ.length
  rw [List.getElem?_append_right (Nat.le_refl _), Nat.sub_self] at q
  have e2 : (σ ++ [some v])[ρ.length]? = some (some v) := by rw [hl]; simp
  rw [e2] at q
  have q : SlotOk g F H ρ.length (some (.own d)) (some (some v)) (fp ρ.length) := q
  have B := E.dropLast
  refine ⟨E.sub, E.low, E.new, E.kept, E.io, E.ioH0, B.lkSet h ho, fun j d' hj => B.lk2 j d' (lockedSet (s := .own d) rfl hj), E.kpH, by simpa using hl, fun j => if j = i then fp ρ.length else if j < ρ.length then fp j else [], fun j => ?_, fun j k a n hj ha hk => ?_, fun p hp j => ?_⟩
  rotate_left 2
  · by_cases z : j = i
    · simp only [if_pos z]; exact S.kp p hp _
    · simp only [if_neg z]
      by_cases z : j < ρ.length
      · simp only [if_pos z]; exact S.kp p hp j
      · simp only [if_neg z]; simp
  · by_cases z : j = i
    · subst z
      rw [List.getElem?_set_self hi, List.getElem?_set_self (hl ▸ hi), if_pos rfl]
      exact q
    · rw [setNe z, setNe z, if_neg z]
      have q := S.ok j
      by_cases zj : j < ρ.length
      · rw [List.getElem?_append_left zj, List.getElem?_append_left (hl ▸ zj)] at q
        rw [if_pos zj]
        exact q
      · rw [List.getElem?_eq_none (by omega), if_neg zj]
        rfl
  · have lastH : Holds (ρ ++ [.own d]) ρ.length := ⟨d, .inl (by simp)⟩
    by_cases zj : j = i
    · subst zj
      simp only [if_pos rfl] at ha
      rw [if_neg (Ne.symm n)] at hk
      by_cases zk : k < ρ.length
      · rw [if_pos zk] at hk
        exact S.sep ρ.length k a (by omega) lastH ha hk
      · rw [if_neg zk] at hk; simp at hk
    · rw [if_neg zj] at ha
      obtain ⟨e, he⟩ := hj
      rw [setNe zj] at he
      have lj : j < ρ.length := by
        rcases he with h | h | h | h <;> exact (List.getElem?_eq_some_iff.mp h).1
      rw [if_pos lj] at ha
      have hj' : Holds (ρ ++ [.own d]) j := ⟨e, by rw [List.getElem?_append_left lj]; exact he⟩
      by_cases zk : k = i
      · subst zk
        simp only [if_pos rfl] at hk
        exact S.sep j ρ.length a (by omega) hj' ha hk
      · rw [if_neg zk] at hk
        by_cases lk : k < ρ.length
        · rw [if_pos lk] at hk
          exact S.sep j k a n hj' ha hk
        · rw [if_neg lk] at hk; simp at hk
/-- a fresh thing beside the slots -/
theorem EnvOk.fresh {A : List Addr} (E : EnvOk g F H ρ σ) (n : New F H F' H') (o : Own g.K g.mg F' H' v d A) (hA : ∀ a ∈ A, H a = none) : EnvOk g F' H' (ρ ++ [.own d]) (σ ++ [some v]) := by
  have E' := E.ext n
  obtain ⟨fp, S⟩ := E.fps
  obtain ⟨fp', S'⟩ := E'.fps
  -- the footprints at the entry state serve: take those of E through ext again
  have fr : ∀ a, F a = none → (∃ u, H a = some u) → F' a = none := fun a f ⟨u, h⟩ => by
    cases q : F' a with
    | none => rfl
    | some o =>
      rcases n.new a o q with z | z
      · rw [f] at z; cases z
      · rw [h] at z; cases z
  have hl := E.len
  have up : ∀ j, SlotOk g F' H' j ρ[j]? σ[j]? (fp j) := fun j => (S.ok j).up n.uF (fun a ha => fr a ((S.ok j).fp a ha).1 ((S.ok j).fp a ha).2) fun a ha => by
    obtain ⟨_, u, e⟩ := (S.ok j).fp a ha
    rw [e, n.uH _ _ e]
  have ne : ∀ j a, a ∈ fp j → a ∉ A := fun j a ha hb => by
    obtain ⟨_, u, e⟩ := (S.ok j).fp a ha
    rw [hA a hb] at e; cases e
  refine ⟨E'.sub, E'.low, E'.new, E'.kept, E'.io, E'.ioH0, fun j x d hj => ?_, fun j d' hj => E'.lk2 j d' ?_, E'.kpH, by simpa using hl, fun j => if j = ρ.length then A else fp j, fun j => ?_, fun j k a nj hj ha hk => ?_, fun p hp j => ?_⟩
  · obtain ⟨e1, e2⟩ := E'.lk j x d hj
    have lj : j < ρ.length := (List.getElem?_eq_some_iff.mp e2.1).1
    exact ⟨by rw [List.getElem?_append_left (hl ▸ lj)]; exact e1, by unfold Locked; rw [List.getElem?_append_left lj]; exact e2⟩
  · have lj : j < ρ.length := by
      have l1 : j < (ρ ++ [Slot.own d]).length := (List.getElem?_eq_some_iff.mp hj.1).1
      have l2 : j ≠ ρ.length := fun z => by
        subst z
        obtain ⟨e2, e3⟩ := hj
        rw [List.getElem?_append_right (Nat.le_refl _), Nat.sub_self] at e2
        have h := Option.some.inj e2
        subst h
        cases e3
      simp at l1; omega
    unfold Locked at hj ⊢
    rw [List.getElem?_append_left lj] at hj
    exact hj
  rotate_left 2
  · by_cases z : j = ρ.length
    · simp only [if_pos z]
      intro hb
      have := hA _ hb
      rw [(E.kpH p hp).1] at this; cases this
    · simp only [if_neg z]; exact S.kp p hp j
  · by_cases z : j = ρ.length
    · subst z
      rw [if_pos rfl]
      have e1 : (ρ ++ [Slot.own d])[ρ.length]? = some (.own d) := by simp
      have e2 : (σ ++ [some v])[ρ.length]? = some (some v) := by rw [hl]; simp
      rw [e1, e2]
      exact ⟨v, rfl, o, fun a ha => E.h0 (hA a ha)⟩
    · rw [if_neg z]
      have q := up j
      by_cases lj : j < ρ.length
      · rw [List.getElem?_append_left lj, List.getElem?_append_left (hl ▸ lj)]
        exact q
      · have e1 : (ρ ++ [Slot.own d])[j]? = none := List.getElem?_eq_none (by simp; omega)
        have e0 : ρ[j]? = none := List.getElem?_eq_none (by omega)
        rw [e0] at q
        rw [e1]
        exact q
  · by_cases zj : j = ρ.length
    · simp only [if_pos zj] at ha
      rw [if_neg (fun z => nj (zj.trans z.symm))] at hk
      exact ne k a hk ha
    · simp only [if_neg zj] at ha
      by_cases zk : k = ρ.length
      · simp only [if_pos zk] at hk
        exact ne j a ha hk
      · simp only [if_neg zk] at hk
        refine S.sep j k a nj ?_ ha hk
        obtain ⟨e, he⟩ := hj
        have lj : j < ρ.length := by
          have : j < (ρ ++ [Slot.own d]).length := by
            rcases he with h | h | h | h <;> exact (List.getElem?_eq_some_iff.mp h).1
          simp at this; omega
        exact ⟨e, by rw [List.getElem?_append_left lj] at he; exact he⟩
end
end J

namespace J
open PySem PySem.Spec PyProof.Rows L2

def R.bind {α β : Type} (r : R α) (k : α → Env → R β) : R β :=
  match r with
  | .ok a ρ => k a ρ
  | .exc x ρ => .exc x ρ
  | .no => .no

/-- an exception: its class, its own dict -/
def ExcV (g : Gh) (F : Hp) (cls : Value) (dd : Option Addr) : D → Prop
  | .ins c fs => g.mg c = some cls ∧ (fs = [] ∨ ∃ a kvs, dd = some a ∧ F a = some (.xd kvs) ∧ RepF g.K g.mg F kvs fs)
  | _ => False

def After (g : Gh) (F H : Hp) (ρ : Env) (σ : L2.St) (v : V) : Bool × D → Prop
  | (true, d) => EnvOk g F H (ρ ++ [.own d]) (σ ++ [some v])
  | (false, d) => EnvOk g F H ρ σ ∧ Rep g.K g.mg F v d

def Goes {α : Type} (g : Gh) (W : WX) (σ : L2.St) (F : Hp) (r : R α) (P : α → Env → Hp → Hp → Prop) : Prop :=
  match r with
  | .ok a ρ' => ∀ F' H', Same F F' → P a ρ' F' H'
  | .exc x ρ' => ∀ cls dd F' H', EnvOk g F' H' ρ' σ → Same F F' → ExcV g F' cls dd x → W cls dd σ H'
  | .no => False

def tE (g : Gh) (W : WX) (f : SE) : TE := fun σ H Q => ∃ F ρ, EnvOk g F H ρ σ ∧ Goes g W σ F (f ρ) (fun a ρ' F' H' => ∀ v, After g F' H' ρ' σ v a → Q v H')
def tT (g : Gh) (W : WX) (f : ST) : TT := fun σ H Q => ∃ F ρ, EnvOk g F H ρ σ ∧ Goes g W σ F (f ρ) (fun b ρ' F' H' => EnvOk g F' H' ρ' σ → Q b H')

theorem PEimp {X : Cx} {e : Expr} {t t' : TE} (h : PE X e t) (i : ∀ σ H Q, t' σ H Q → t σ H Q) : PE X e t' := ⟨fun pins s σ H Q I q => h.run pins s σ H Q I (i σ H Q q)⟩
theorem PTimp {X : Cx} {e : Expr} {t t' : TT} (h : PT X e t) (i : ∀ σ H Q, t' σ H Q → t σ H Q) : PT X e t' := ⟨fun pins s σ H Q I q => h.run pins s σ H Q I (i σ H Q q)⟩
theorem PWimp {X : Cx} {e : Expr} {t t' : TT} (h : PW X e t) (i : ∀ σ H Q, t' σ H Q → t σ H Q) : PW X e t' := ⟨fun wh pins s σ H Q I q => h.run wh pins s σ H Q I (i σ H Q q)⟩
theorem PAimp {X : Cx} {e : List Expr} {t t' : TA} (h : PA X e t) (i : ∀ σ H Q, t' σ H Q → t σ H Q) : PA X e t' := ⟨fun pos pins s σ H Q I q => h.run pos pins s σ H Q I (i σ H Q q)⟩
theorem PSimp {X : Cx} {e : Stmt} {t t' : TS} (h : PS X e t) (i : ∀ D σ H, t' D σ H → t D σ H) : PS X e t' := ⟨fun pins s σ H D I q => h.run pins s σ H D I (i D σ H q)⟩
theorem PSsimp {X : Cx} {e : List Stmt} {t t' : TS} (h : PSs X e t) (i : ∀ D σ H, t' D σ H → t D σ H) : PSs X e t' := ⟨fun pins s σ H D I q => h.run pins s σ H D I (i D σ H q)⟩

section
variable {g : Gh} {W : WX} {F F' H H' : Hp} {ρ : Env} {σ : L2.St} {i : Nat} {v : V} {d : D}

theorem After.env {a : Bool × D} (h : After g F H ρ σ v a) : EnvOk g F H ρ σ := by
  obtain ⟨b, d⟩ := a
  cases b with
  | true => exact EnvOk.dropLast h
  | false => exact h.1
theorem After.seal {fr : Bool} (h : After g F H ρ σ v (fr, d)) (hs : (fr && !d.seals) = false) : ∃ F', EnvOk g F' H ρ σ ∧ Same F F' ∧ Rep g.K g.mg F' v d := by
  cases fr with
  | false => exact ⟨F, h.1, .refl _, h.2⟩
  | true =>
    have hd : d.seals = true := by simpa using hs
    have h : EnvOk g F H (ρ ++ [.own d]) (σ ++ [some v]) := h
    have hl : ρ.length = σ.length := by simpa using h.len
    obtain ⟨F', E, u⟩ := h.freeze (i := ρ.length) (d := d) (by simp) hd
    rw [List.set_append_right _ _ (Nat.le_refl _), Nat.sub_self] at E
    have E : EnvOk g F' H (ρ ++ [.val d]) (σ ++ [some v]) := E
    refine ⟨F', E.dropLast, u, ?_⟩
    obtain ⟨fp, S⟩ := E.fps
    have q := S.ok ρ.length
    rw [show (ρ ++ [Slot.val d])[ρ.length]? = some (.val d) by simp, show (σ ++ [some v])[ρ.length]? = some (some v) by rw [hl]; simp] at q
    obtain ⟨_, x, e, r⟩ := q
    cases e
    exact r

theorem Goes.up {α : Type} {r : R α} {P : α → Env → Hp → Hp → Prop} (h : Goes g W σ F r P) (u : Same F F') : Goes g W σ F' r P := by
  cases r with
  | ok a ρ' => exact fun F1 H1 s => h F1 H1 (u.trans s)
  | exc x ρ' => exact fun cls dd F1 H1 E s => h cls dd F1 H1 E (u.trans s)
  | no => exact h
theorem Goes.imp {α : Type} {r : R α} {P P' : α → Env → Hp → Hp → Prop} (h : Goes g W σ F r P) (i : ∀ a ρ' F' H', Same F F' → P a ρ' F' H' → P' a ρ' F' H') : Goes g W σ F r P' := by
  cases r with
  | ok a ρ' => exact fun F1 H1 s => i _ _ _ _ s (h F1 H1 s)
  | exc x ρ' => exact h
  | no => exact h
theorem Goes.bind {α β : Type} {r : R α} {k : α → Env → R β} {P : β → Env → Hp → Hp → Prop} (h : Goes g W σ F (r.bind k) P) : Goes g W σ F r (fun a ρ' F' _ => Goes g W σ F' (k a ρ') P) := by
  cases r with
  | ok a ρ' => exact fun F1 H1 s => Goes.up (r := k a ρ') h s
  | exc x ρ' => exact h
  | no => exact h
end

/-! ## arguments -/
inductive SArg where
  | e (f : SE)
  | p (i : Nat)
inductive Arg where
  | d (d : D)
  | p (i : Nat)
def getP (ρ : Env) (i : Nat) : Option D := match ρ[i]? with
  | some (.val d) => some d
  | some (.own d) => some d
  | some (.io d) => some d
  | some (.lent d) => some d
  | some (.lown d) => some d
  | some (.lio d) => some d
  | _ => none
def evArg : SArg → Env → R Arg
  | .e f, ρ => (f ρ).bind fun a ρ' => if (a.1 && !a.2.seals) = true then .no else .ok (.d a.2) ρ'
  | .p i, ρ => match getP ρ i with
    | some _ => .ok (.p i) ρ
    | none => .no
def evArgs : List SArg → Env → R (List Arg)
  | [], ρ => .ok [] ρ
  | a :: r, ρ => (evArg a ρ).bind fun x ρ' => (evArgs r ρ').bind fun xs ρ'' => .ok (x :: xs) ρ''
def deref (ρ : Env) : Arg → Option D
  | .d d => some d
  | .p i => getP ρ i
def derefs (ρ : Env) : List Arg → Option (List D)
  | [] => some []
  | a :: r => match deref ρ a, derefs ρ r with
    | some d, some ds => some (d :: ds)
    | _, _ => none
def sArgs (l : List SArg) (ρ : Env) : R (List D) := (evArgs l ρ).bind fun as ρ' => match derefs ρ' as with
  | some ds => .ok ds ρ'
  | none => .no

def ArgV (g : Gh) (F : Hp) (σ : L2.St) (v : V) : Arg → Prop
  | .d d => Rep g.K g.mg F v d
  | .p i => σ[i]? = some (some v)
inductive ArgVs (g : Gh) (F : Hp) (σ : L2.St) : List V → List Arg → Prop
  | nil : ArgVs g F σ [] []
  | cons {v a vs as} (h : ArgV g F σ v a) (t : ArgVs g F σ vs as) : ArgVs g F σ (v :: vs) (a :: as)
def Peek (g : Gh) (F H : Hp) (v : V) (d : D) : Prop := Rep g.K g.mg F v d ∨ ∃ A, Own g.K g.mg F H v d A
inductive Peeks (g : Gh) (F H : Hp) : List V → List D → Prop
  | nil : Peeks g F H [] []
  | cons {v d vs ds} (h : Peek g F H v d) (t : Peeks g F H vs ds) : Peeks g F H (v :: vs) (d :: ds)

def tArg (g : Gh) (W : WX) : SArg → TE
  | .e f => tE g W f
  | .p i => tVar i
def tArgs (g : Gh) (W : WX) : List SArg → TA
  | [] => tNil
  | a :: r => tCons (tArg g W a) (tArgs g W r)

section
variable {g : Gh} {W : WX} {F F' H H' : Hp} {ρ : Env} {σ : L2.St} {i : Nat} {v : V} {d : D}
theorem ArgV.up {a : Arg} (h : ArgV g F σ v a) (u : Same F F') : ArgV g F' σ v a := by
  cases a with
  | d d => exact Rep.up u h
  | p i => exact h
theorem EnvOk.peek (E : EnvOk g F H ρ σ) (h : getP ρ i = some d) : ∃ x, σ[i]? = some (some x) ∧ Peek g F H x d := by
  obtain ⟨fp, S⟩ := E.fps
  have q := S.ok i
  unfold getP at h
  cases e : ρ[i]? with
  | none => rw [e] at h; cases h
  | some s =>
    rw [e] at h q
    cases s with
    | no => cases h
    | val d' => cases h; obtain ⟨_, x, hx, r⟩ := q; exact ⟨x, hx, .inl r⟩
    | own d' => cases h; obtain ⟨x, hx, r, _⟩ := q; exact ⟨x, hx, .inr ⟨_, r⟩⟩
    | io d' => cases h; obtain ⟨x, hx, r, _⟩ := q; exact ⟨x, hx, .inr ⟨_, r⟩⟩
    | lown d' => cases h; obtain ⟨x, hx, r, _⟩ := q; exact ⟨x, hx, .inr ⟨_, r⟩⟩
    | lio d' => cases h; obtain ⟨x, hx, r, _⟩ := q; exact ⟨x, hx, .inr ⟨_, r⟩⟩
    | lent d' =>
      cases h
      obtain ⟨x, hx, r⟩ := q
      rcases r with ⟨_, r⟩ | r
      · exact ⟨x, hx, .inl r⟩
      · exact ⟨x, hx, .inr ⟨_, r⟩⟩
theorem deref_peek {a : Arg} (E : EnvOk g F H ρ σ) (h : ArgV g F σ v a) (hd : deref ρ a = some d) : Peek g F H v d := by
  cases a with
  | d d' => cases hd; exact .inl h
  | p i =>
    obtain ⟨x, hx, q⟩ := E.peek hd
    have h : σ[i]? = some (some v) := h
    rw [h] at hx; cases hx
    exact q
theorem derefs_peek {as : List Arg} {vs : List V} {ds : List D} (E : EnvOk g F H ρ σ) (h : ArgVs g F σ vs as) (hd : derefs ρ as = some ds) : Peeks g F H vs ds := by
  induction h generalizing ds with
  | nil => cases hd; exact .nil
  | cons h t ih =>
    rename_i v a vs as
    simp only [derefs] at hd
    cases e1 : deref ρ a with
    | none => rw [e1] at hd; cases hd
    | some d =>
      cases e2 : derefs ρ as with
      | none => rw [e1, e2] at hd; cases hd
      | some ds' =>
        rw [e1, e2] at hd; cases hd
        exact .cons (deref_peek E h e1) (ih e2)

theorem arg_run {a : SArg} {Q : VK} (E : EnvOk g F H ρ σ) (h : Goes g W σ F (evArg a ρ) (fun x ρ' F' H' => EnvOk g F' H' ρ' σ → ∀ v, ArgV g F' σ v x → Q v H')) : tArg g W a σ H Q := by
  cases a with
  | p i =>
    simp only [evArg] at h
    cases e : getP ρ i with
    | none => rw [e] at h; exact h.elim
    | some d =>
      rw [e] at h
      obtain ⟨x, hx, _⟩ := E.peek e
      exact ⟨x, hx, h F H (.refl _) E x hx⟩
  | e f =>
    refine ⟨F, ρ, E, ?_⟩
    refine (Goes.bind h).imp fun a ρ' F' H' u q v A => ?_
    obtain ⟨fr, d⟩ := a
    dsimp only at q
    by_cases hs : (fr && !d.seals) = true
    · rw [if_pos hs] at q; exact q.elim
    · rw [if_neg hs] at q
      obtain ⟨F2, E2, u2, r⟩ := A.seal (by simpa using hs)
      exact q F2 H' u2 E2 v r
theorem args_run {l : List SArg} {Q : List V → Hp → Prop} (E : EnvOk g F H ρ σ) (h : Goes g W σ F (evArgs l ρ) (fun xs ρ' F' H' => EnvOk g F' H' ρ' σ → ∀ vs, ArgVs g F' σ vs xs → Q vs H')) : tArgs g W l σ H Q := by
  induction l generalizing F H ρ Q with
  | nil => exact h F H (.refl _) E [] .nil
  | cons a l ih =>
    refine arg_run E ((Goes.bind h).imp fun x ρ' F' H' u q E' v hv => ?_)
    refine ih (F := F') E' ((Goes.bind q).imp fun xs ρ'' F'' H'' u' q' E'' vs hvs => ?_)
    exact q' F'' H'' (.refl _) E'' (v :: vs) (.cons (hv.up u') hvs)

/-! ## operators by values -/
def ResOk (g : Gh) (H F' H' : Hp) (v : V) : Bool → D → Prop
  | true, d => ∃ A, Own g.K g.mg F' H' v d A ∧ ∀ a ∈ A, H a = none
  | false, d => Rep g.K g.mg F' v d
/-- what follows a result -/
def Kn (g : Gh) (F H : Hp) (Q : VK) (a : Bool × D) : Prop := ∀ v H' F', New F H F' H' → ResOk g H F' H' v a.1 a.2 → Q v H'
structure OpS (g : Gh) (r : List V → Hp → VK → Prop) (sem : List D → Option (Bool × D)) : Prop where
  run : ∀ F H vs ds a Q, Same F H → Peeks g F H vs ds → sem ds = some a → Kn g F H Q a → r vs H Q
def sOp (sem : List D → Option (Bool × D)) (l : List SArg) : SE := fun ρ => (sArgs l ρ).bind fun ds ρ' => match sem ds with
  | some a => .ok a ρ'
  | none => .no
theorem EnvOk.after {a : Bool × D} (E : EnvOk g F H ρ σ) (n : New F H F' H') (k : ResOk g H F' H' v a.1 a.2) : After g F' H' ρ σ v a := by
  obtain ⟨fr, d⟩ := a
  cases fr with
  | true =>
    obtain ⟨A, o, hA⟩ := k
    exact E.fresh n o hA
  | false => exact ⟨E.ext n, k⟩
theorem op_run {r : List V → Hp → VK → Prop} {sem : List D → Option (Bool × D)} {l : List SArg} {Q : VK} (o : OpS g r sem) (h : tE g W (sOp sem l) σ H Q) : tArgs g W l σ H (fun vs H1 => r vs H1 Q) := by
  obtain ⟨F, ρ, E, h⟩ := h
  unfold sOp sArgs at h
  refine args_run E ((Goes.bind (Goes.bind h)).imp fun xs ρ' F' H' u q E' vs hvs => ?_)
  try dsimp only at q
  cases e : derefs ρ' xs with
  | none => rw [e] at q; exact q.elim
  | some ds =>
    rw [e] at q
    have q : Goes g W σ F' (match sem ds with | some a => R.ok a ρ' | none => .no) _ := q F' H' (.refl _)
    cases e2 : sem ds with
    | none => rw [e2] at q; exact q.elim
    | some a =>
      rw [e2] at q
      refine o.run F' H' vs ds a Q E'.sub (derefs_peek E' hvs e) e2 fun v H2 F2 n k => ?_
      refine q F2 H2 n.uF v ?_
      exact E'.after n k

/-! ## names, constants -/
def sVar (i : Nat) : SE := fun ρ => match ρ[i]? with
  | some (.val d) => .ok (false, d) ρ
  | some (.own d) => if d.seals = true then .ok (false, d) (ρ.set i (.val d)) else .no
  | _ => .no
def sC (d : D) : SE := fun ρ => .ok (false, d) ρ
theorem var_run {Q : VK} (h : tE g W (sVar i) σ H Q) : tVar i σ H Q := by
  obtain ⟨F, ρ, E, h⟩ := h
  unfold sVar at h
  cases e : ρ[i]? with
  | none => rw [e] at h; exact h.elim
  | some s =>
    rw [e] at h
    cases s with
    | val d =>
      obtain ⟨x, hx, q⟩ := E.peek (i := i) (d := d) (by unfold getP; rw [e])
      obtain ⟨fp, S⟩ := E.fps
      have q := S.ok i
      rw [e, hx] at q
      obtain ⟨_, y, ey, r⟩ := q
      cases ey
      exact ⟨x, hx, h F H (.refl _) x ⟨E, r⟩⟩
    | own d =>
      dsimp only at h
      by_cases hs : d.seals = true
      · rw [if_pos hs] at h
        obtain ⟨F', E', u⟩ := E.freeze e hs
        obtain ⟨fp, S⟩ := E'.fps
        have q := S.ok i
        rw [List.getElem?_set_self (E.lt e)] at q
        obtain ⟨_, y, ey, r⟩ := q
        exact ⟨y, ey, h F' H u y ⟨E', r⟩⟩
      · rw [if_neg hs] at h; exact h.elim
    | no => exact h.elim
    | io _ => exact h.elim
    | lent _ => exact h.elim
    | lown _ => exact h.elim
    | lio _ => exact h.elim
theorem c_run {Q : VK} (r : ∀ F, Rep g.K g.mg F v d) (h : tE g W (sC d) σ H Q) : tC v σ H Q := by
  obtain ⟨F, ρ, E, h⟩ := h
  exact h F H (.refl _) v ⟨E, r F⟩
end

section
variable {X : Cx} {g : Gh} {W : WX} {a b : Expr} {pos : Pos}
theorem jv {i : Nat} {x : Str} (h : PE X (.Name x pos) (tVar i)) : PE X (.Name x pos) (tE g W (sVar i)) := PEimp h fun _ _ _ => var_run
theorem ji {i : Int} {j} : PE X (.Constant (.int i) j pos) (tE g W (sC (.int i))) := PEimp pe_int fun _ _ _ => c_run fun _ => .int i
theorem jb {b : Bool} {j} : PE X (.Constant (.bool b) j pos) (tE g W (sC (.bl b))) := PEimp pe_bl fun _ _ _ => c_run fun _ => .bl b
theorem jn {j} : PE X (.Constant .none j pos) (tE g W (sC .non)) := PEimp pe_non fun _ _ _ => c_run fun _ => .non
theorem js {x : Str} {j} : PE X (.Constant (.str x) j pos) (tE g W (sC (.str x))) := PEimp pe_str fun _ _ _ => c_run fun _ => .str x

/-- an argument -/
theorem ae {e : Expr} {f : SE} (h : PE X e (tE g W f)) : PE X e (tArg g W (.e f)) := h
theorem ap {i : Nat} {x : Str} (h : PE X (.Name x pos) (tVar i)) : PE X (.Name x pos) (tArg g W (.p i)) := h
theorem a0 : PA X [] (tArgs g W []) := pa_nil
theorem a1 {e : Expr} {es : List Expr} {s : SArg} {l : List SArg} (h : PE X e (tArg g W s)) (t : PA X es (tArgs g W l)) (hs : starEach (e :: es) X.env = (false, eval e X.env) :: starEach es X.env := by rfl) : PA X (e :: es) (tArgs g W (s :: l)) := pa_cons h t hs
end
end J

namespace J
open PySem PySem.Spec PyProof.Rows L2

/-! ## shapes of expressions over operators -/
section
variable {X : Cx} {g : Gh} {W : WX} {a b : Expr} {pos : Pos}
/-- a binary operator's reading as that of its arguments' list -/
def r2L (r : R2) : List V → Hp → VK → Prop := fun vs H Q => ∃ x y, vs = [x, y] ∧ r x y H Q
theorem two_run {r : R2} {sem : List D → Option (Bool × D)} {sa sb : SArg} {σ : L2.St} {H : Hp} {Q : VK} (o : OpS g (r2L r) sem) (h : tE g W (sOp sem [sa, sb]) σ H Q) : tOp r (tArg g W sa) (tArg g W sb) σ H Q := by
  have q := op_run o h
  have mono : ∀ {sa : SArg} {σ : L2.St} {H : Hp} {P P' : VK}, tArg g W sa σ H P → (∀ v H, P v H → P' v H) → tArg g W sa σ H P' := by
    intro sa σ H P P' q i
    cases sa with
    | p j => obtain ⟨v, e, q⟩ := q; exact ⟨v, e, i _ _ q⟩
    | e f =>
      obtain ⟨F, ρ, E, q⟩ := q
      exact ⟨F, ρ, E, q.imp fun a ρ' F' H' _ q v A => i _ _ (q v A)⟩
  refine mono q fun x H1 q => mono q fun y H2 q => ?_
  obtain ⟨x', y', e, q⟩ := q
  cases e
  exact q
theorem one_run {r : V → Hp → VK → Prop} {sem : List D → Option (Bool × D)} {sa : SArg} {σ : L2.St} {H : Hp} {Q : VK} (o : OpS g (fun vs H Q => ∃ x, vs = [x] ∧ r x H Q) sem) (h : tE g W (sOp sem [sa]) σ H Q) : tArg g W sa σ H fun x H1 => r x H1 Q := by
  have q := op_run o h
  have mono : ∀ {sa : SArg} {σ : L2.St} {H : Hp} {P P' : VK}, tArg g W sa σ H P → (∀ v H, P v H → P' v H) → tArg g W sa σ H P' := by
    intro sa σ H P P' q i
    cases sa with
    | p j => obtain ⟨v, e, q⟩ := q; exact ⟨v, e, i _ _ q⟩
    | e f =>
      obtain ⟨F, ρ, E, q⟩ := q
      exact ⟨F, ρ, E, q.imp fun a ρ' F' H' _ q v A => i _ _ (q v A)⟩
  refine mono q fun x H1 q => ?_
  obtain ⟨x', e, q⟩ := q
  cases e
  exact q

theorem jbin {op : Operator} {r : R2} {sem : List D → Option (Bool × D)} {sa sb : SArg} (ho : OpR X (binaryOp op) r) (os : OpS g (r2L r) sem) (ha : PE X a (tArg g W sa)) (hb : PE X b (tArg g W sb)) : PE X (.BinOp a op b pos) (tE g W (sOp sem [sa, sb])) :=
  PEimp (pe_op ho ha hb) fun _ _ _ => two_run os
theorem jcmp {op : CmpOp} {r : R2} {sem : List D → Option (Bool × D)} {sa sb : SArg} (ho : OpR X (compareOp op) r) (os : OpS g (r2L r) sem) (ha : PE X a (tArg g W sa)) (hb : PE X b (tArg g W sb)) (hm : behindInMarks op b = false) : PE X (.Compare a [op] [b] pos) (tE g W (sOp sem [sa, sb])) :=
  PEimp (pe_cmpR ho ha hb hm) fun _ _ _ => two_run os
theorem jun {op : UnaryOp} {r : V → Hp → VK → Prop} {sem : List D → Option (Bool × D)} {sa : SArg} (ho : UnR X (unaryOp op) r) (os : OpS g (fun vs H Q => ∃ x, vs = [x] ∧ r x H Q) sem) (ha : PE X a (tArg g W sa)) : PE X (.UnaryOp op a pos) (tE g W (sOp sem [sa])) :=
  PEimp (pe_un ho ha) fun _ _ _ => one_run os
theorem jix {r : R2} {sem : List D → Option (Bool × D)} {sa sb : SArg} (ho : IxR X r) (os : OpS g (r2L r) sem) (ha : PE X a (tArg g W sa)) (hb : PE X b (tArg g W sb)) (hs : PlainIx b) : PE X (.Subscript a b pos) (tE g W (sOp sem [sa, sb])) :=
  PEimp (pe_ix ho ha hb hs) fun _ _ _ => two_run os
theorem jcb {x : Str} {id : String} {r : List V → Hp → VK → Prop} {sem : List D → Option (Bool × D)} {e : Expr} {es : List Expr} {l : List SArg} {p : Pos} (hc : CallR X (.builtin id) r) (os : OpS g r sem) (hg : Gl X x) (hm : X.mg x = none) (hv : bootBuiltins x = some (.builtin id)) (ha : PA X (e :: es) (tArgs g W l)) (hn : x ≠ "__name__" := by decide) (hdb : (x == ("__debug__" : Str)) = false := by decide)
    (he : starEach (e :: es) X.env = (false, eval e X.env) :: starEach es X.env := by rfl) (hpl : (backTo pos (starEach es X.env)).any (·.1) = false := by rfl) : PE X (.Call (.Name x p) (e :: es) [] pos) (tE g W (sOp sem l)) :=
  PEimp (pe_callB hc hg hm hv ha hn hdb he hpl) fun _ _ _ h => op_run os h
theorem jct {x : Str} {T : String} {r : List V → Hp → VK → Prop} {sem : List D → Option (Bool × D)} {e : Expr} {es : List Expr} {l : List SArg} {p : Pos} (hc : CallR X (.type T) r) (os : OpS g r sem) (hg : Gl X x) (hm : X.mg x = none) (hv : bootBuiltins x = some (.type T)) (ha : PA X (e :: es) (tArgs g W l)) (hn : x ≠ "__name__" := by decide) (hdb : (x == ("__debug__" : Str)) = false := by decide)
    (he : starEach (e :: es) X.env = (false, eval e X.env) :: starEach es X.env := by rfl) (hpl : (backTo pos (starEach es X.env)).any (·.1) = false := by rfl) : PE X (.Call (.Name x p) (e :: es) [] pos) (tE g W (sOp sem l)) :=
  PEimp (pe_callTy hc hg hm hv ha hn hdb he hpl) fun _ _ _ h => op_run os h
end

/-! ## what an argument is -/
section
variable {g : Gh} {F H : Hp} {v : V} {l : List D}
theorem Peek.int {i : Int} (h : Peek g F H v (.int i)) : v = .int i := by rcases h with h | ⟨_, h⟩ <;> cases h; rfl
theorem Peek.bl {i : Bool} (h : Peek g F H v (.bl i)) : v = .bl i := by rcases h with h | ⟨_, h⟩ <;> cases h; rfl
theorem Peek.non (h : Peek g F H v .non) : v = .non := by rcases h with h | ⟨_, h⟩ <;> cases h; rfl
theorem Peek.str {i : Str} (h : Peek g F H v (.str i)) : v = .str i := by rcases h with h | ⟨_, h⟩ <;> cases h; rfl
theorem Peek.tup (h : Peek g F H v (.tup l)) (s : Same F H) : ∃ a vs, v = .ref a ∧ SqT g.K F a vs ∧ SqT g.K H a vs ∧ Reps g.K g.mg F vs l := by
  rcases h with h | ⟨_, h⟩
  · cases h with
    | tup h r => exact ⟨_, _, rfl, h, SqT.up h s, r⟩
  · cases h
theorem Peek.lst (h : Peek g F H v (.lst l)) (s : Same F H) : ∃ a vs, v = .ref a ∧ H a = some (.lst vs) ∧ Reps g.K g.mg F vs l := by
  rcases h with h | ⟨_, h⟩
  · cases h with
    | lst h r => exact ⟨_, _, rfl, s _ _ h, r⟩
  · cases h with
    | lst f h r => exact ⟨_, _, rfl, h, r⟩
theorem Peek.dic {l : List (D × D)} (h : Peek g F H v (.dic l)) (s : Same F H) : ∃ a vs, v = .ref a ∧ H a = some (.dK vs) ∧ RepK g.K g.mg F vs l := by
  rcases h with h | ⟨_, h⟩
  · cases h with
    | dic h r => exact ⟨_, _, rfl, s _ _ h, r⟩
  · cases h with
    | dic f h r => exact ⟨_, _, rfl, h, r⟩
theorem Peek.ins {c : Str} {l : List (Str × D)} (h : Peek g F H v (.ins c l)) (s : Same F H) : ∃ a C dx vs, v = .ref a ∧ H a = some (.ins C dx vs) ∧ g.mg c = some (.ref C) ∧ RepF g.K g.mg F vs l := by
  rcases h with h | ⟨_, h⟩
  · cases h with
    | ins h hc r => exact ⟨_, _, _, _, rfl, s _ _ h, hc, r⟩
  · cases h with
    | ins f h hc r => exact ⟨_, _, _, _, rfl, h, hc, r⟩
theorem free_of {F H : Hp} (s : Same F H) {p : Addr} (h : H p = none) : F p = none := by
  cases e : F p with
  | none => rfl
  | some o => rw [s _ _ e] at h; cases h
theorem same_upd {H : Hp} {p : Addr} {o : HO} (h : H p = none) : Same H (upd H p o) := fun b x e => by
  rw [upd_ne (ne_of_none e h)]
  exact e
theorem New.lst (s : Same F H) {p : Addr} (h : H p = none) {o : HO} : New F H F (upd H p o) := ⟨.refl _, same_upd h, s.trans (same_upd h), fun _ _ e => .inl e⟩
variable {Q : VK}
/-- a new list -/
theorem Kn.lst (k : Kn g F H Q (true, .lst l)) (s : Same F H) {vs : List V} (r : Reps g.K g.mg F vs l) {p : Addr} (h : H p = none) : Q (.ref p) (upd H p (.lst vs)) :=
  k _ _ F (New.lst s h) ⟨[p], .lst (free_of s h) upd_same r, fun a ha => by simp at ha; subst ha; exact h⟩
/-- a new tuple -/
theorem Kn.tup (k : Kn g F H Q (false, .tup l)) (s : Same F H) {vs : List V} (r : Reps g.K g.mg F vs l) {p : Addr} (h : H p = none) : Q (.ref p) (upd H p (.tup vs)) := by
  have u := same_upd (o := .tup vs) (free_of s h)
  refine k _ _ (upd F p (.tup vs)) ⟨u, same_upd h, fun b o e => ?_, fun b o e => ?_⟩ (.tup (.inl (.inl upd_same)) (r.up u))
  · by_cases z : b = p
    · subst z; rw [upd_same] at e; rw [upd_same]; exact e
    · rw [upd_ne z] at e; rw [upd_ne z]; exact s _ _ e
  · by_cases z : b = p
    · subst z; exact .inr h
    · rw [upd_ne z] at e; exact .inl e
/-- what stands already -/
theorem Kn.is {d : D} (k : Kn g F H Q (false, d)) (s : Same F H) (r : Rep g.K g.mg F v d) : Q v H := k _ H F (.refl s) r
end

section
variable {g : Gh}
def l1 (f : D → Option (Bool × D)) : List D → Option (Bool × D)
  | [a] => f a
  | _ => none
def l2 (f : D → D → Option (Bool × D)) : List D → Option (Bool × D)
  | [a, b] => f a b
  | _ => none
def r1L (r : V → Hp → VK → Prop) : List V → Hp → VK → Prop := fun vs H Q => ∃ x, vs = [x] ∧ r x H Q
theorem OpS.one {r : List V → Hp → VK → Prop} {f : D → Option (Bool × D)} (h : ∀ F H x a c Q, Same F H → Peek g F H x a → f a = some c → Kn g F H Q c → r [x] H Q) : OpS g r (l1 f) := by
  refine ⟨fun F H vs ds c Q s p e k => ?_⟩
  cases p with
  | nil => cases e
  | cons p t =>
    cases t with
    | nil => exact h F H _ _ c Q s p e k
    | cons _ _ => cases e
theorem OpS.two {r : List V → Hp → VK → Prop} {f : D → D → Option (Bool × D)} (h : ∀ F H x y a b c Q, Same F H → Peek g F H x a → Peek g F H y b → f a b = some c → Kn g F H Q c → r [x, y] H Q) : OpS g r (l2 f) := by
  refine ⟨fun F H vs ds c Q s p e k => ?_⟩
  cases p with
  | nil => cases e
  | cons p t =>
    cases t with
    | nil => cases e
    | cons p2 t =>
      cases t with
      | nil => exact h F H _ _ _ _ c Q s p p2 e k
      | cons _ _ => cases e
theorem OpS.bin {r : R2} {f : D → D → Option (Bool × D)} (h : ∀ F H x y a b c Q, Same F H → Peek g F H x a → Peek g F H y b → f a b = some c → Kn g F H Q c → r x y H Q) : OpS g (r2L r) (l2 f) :=
  .two fun F H x y a b c Q s p q e k => ⟨x, y, rfl, h F H x y a b c Q s p q e k⟩
theorem OpS.un {r : V → Hp → VK → Prop} {f : D → Option (Bool × D)} (h : ∀ F H x a c Q, Same F H → Peek g F H x a → f a = some c → Kn g F H Q c → r x H Q) : OpS g (r1L r) (l1 f) :=
  .one fun F H x a c Q s p e k => ⟨x, rfl, h F H x a c Q s p e k⟩
/-- a guarded value -/
theorem guard_eq {p : Prop} [Decidable p] {a c : Bool × D} (h : (if p then some a else none) = some c) : p ∧ a = c := by
  by_cases z : p
  · rw [if_pos z] at h; exact ⟨z, Option.some.inj h⟩
  · rw [if_neg z] at h; cases h
end

/-! ## the operators -/
section
variable {X : Cx} {g : Gh}
def dAdd : D → D → Option (Bool × D)
  | .int i, .int j => some (false, .int (i + j))
  | .str x, .str y => if x.length + y.length ≤ sizeLine then some (false, .str (x ++ y)) else none
  | .lst x, .lst y => if x.length + y.length ≤ sizeLine then some (true, .lst (x ++ y)) else none
  | .tup x, .tup y => if x.length + y.length ≤ sizeLine then some (false, .tup (x ++ y)) else none
  | _, _ => none
def rAddA (K : PySem.W.Frag) : R2 := fun x y H Q => ((rI0 fun i j => V.int (i + j)) x y H Q ∨ (∃ i j, x = V.str i ∧ y = V.str j ∧ i.length + j.length ≤ sizeLine ∧ Q (.str (i ++ j)) H)) ∨ (rCat x y H Q ∨ rCatA K x y H Q)
theorem or_add : OpR X (binaryOp .Add) (rAddA X.K) := OpR.or (OpR.or op_add op_add_str) (OpR.or op_cat op_catA)
theorem os_add : OpS g (r2L (rAddA g.K)) (l2 dAdd) := by
  refine .bin fun F H x y a b c Q s p p2 e k => ?_
  unfold dAdd at e
  split at e
  · rename_i i j
    cases e
    rw [p.int, p2.int]
    exact .inl (.inl ⟨i, j, rfl, rfl, k.is s (.int _)⟩)
  · rename_i i j
    obtain ⟨z, rfl⟩ := guard_eq e
    rw [p.str, p2.str]
    exact .inl (.inr ⟨i, j, rfl, rfl, z, k.is s (.str _)⟩)
  · rename_i i j
    obtain ⟨z, rfl⟩ := guard_eq e
    obtain ⟨a, us, rfl, ha, ra⟩ := p.lst s
    obtain ⟨b, ws, rfl, hb, rb⟩ := p2.lst s
    exact .inr (.inl ⟨a, b, us, ws, rfl, rfl, ha, hb, by rw [ra.length, rb.length]; exact z, fun q hq => k.lst s (ra.append rb) hq⟩)
  · rename_i i j
    obtain ⟨z, rfl⟩ := guard_eq e
    obtain ⟨a, us, rfl, fa, ha, ra⟩ := p.tup s
    obtain ⟨b, ws, rfl, fb, hb, rb⟩ := p2.tup s
    refine .inr (.inr ⟨a, b, us, ws, rfl, rfl, ha, hb, by rw [ra.length, rb.length]; exact z, fun h1 => ?_, fun h1 h2 => ?_, fun h1 h2 q hq => k.tup s (ra.append rb) hq⟩)
    · subst h1
      cases ra
      exact k.is s (.tup fb rb)
    · subst h2
      cases rb
      rw [List.append_nil] at k
      exact k.is s (.tup fa ra)
  · cases e

/-- two ints -/
def dII (C : Int → Int → Bool) (f : Int → Int → D) : D → D → Option (Bool × D)
  | .int i, .int j => if C i j = true then some (false, f i j) else none
  | _, _ => none
theorem os_II {C : Int → Int → Bool} {C' : Int → Int → Prop} {f : Int → Int → D} {f' : Int → Int → V} (hC : ∀ i j, C i j = true → C' i j) (hf : ∀ F i j, Rep g.K g.mg F (f' i j) (f i j)) :
    OpS g (r2L (rI C' f')) (l2 (dII C f)) := by
  refine .bin fun F H x y a b c Q s p p2 e k => ?_
  unfold dII at e
  split at e
  · rename_i i j
    obtain ⟨z, rfl⟩ := guard_eq e
    rw [p.int, p2.int]
    exact ⟨i, j, rfl, rfl, hC _ _ z, k.is s (hf _ _ _)⟩
  · cases e
theorem os_II0 {f : Int → Int → D} {f' : Int → Int → V} (hf : ∀ F i j, Rep g.K g.mg F (f' i j) (f i j)) : OpS g (r2L (rI0 f')) (l2 (dII (fun _ _ => true) f)) := by
  refine .bin fun F H x y a b c Q s p p2 e k => ?_
  unfold dII at e
  split at e
  · rename_i i j
    obtain ⟨z, rfl⟩ := guard_eq e
    rw [p.int, p2.int]
    exact ⟨i, j, rfl, rfl, k.is s (hf _ _ _)⟩
  · cases e
abbrev c0 : Int → Int → Bool := fun _ _ => true
def dSub := dII c0 fun i j => .int (i - j)
def dMul := dII (fun i j => decide ((Builtin.Int.intBits i : Int) + (Builtin.Int.intBits j : Int) ≤ 134217728)) fun i j => .int (i * j)
def dDiv := dII (fun _ j => decide (0 < j ∧ j.natAbs.log2 < 9000)) fun i j => .int (i / j)
def dMod := dII (fun _ j => decide (0 < j)) fun i j => .int (i % j)
def dPow := dII (fun i j => decide (0 ≤ j ∧ j ≤ 1000000 ∧ i.natAbs < 2 ^ 64)) fun i j => .int (i ^ j.toNat)
def dShl := dII (fun i j => decide (0 ≤ j ∧ (Builtin.Int.intBits i : Int) + j ≤ 2 ^ 27)) fun i j => .int (i * 2 ^ j.toNat)
def dShr := dII (fun _ j => decide (0 ≤ j)) fun i j => .int (i / 2 ^ j.toNat)
def dAnd := dII c0 fun i j => .int (Builtin.bitAnd i j)
def dOr := dII c0 fun i j => .int (Builtin.bitOr i j)
def dXor := dII c0 fun i j => .int (Builtin.bitXor i j)
theorem os_sub : OpS g (r2L (rI0 fun i j => V.int (i - j))) (l2 dSub) := os_II0 fun _ _ _ => .int _
theorem os_mul : OpS g (r2L (rI CMulX fun i j => V.int (i * j))) (l2 dMul) := os_II (fun _ _ h => by have := of_decide_eq_true h; exact this) fun _ _ _ => .int _
theorem os_div : OpS g (r2L (rI CDivW fun i j => V.int (i / j))) (l2 dDiv) := os_II (fun _ _ h => by have := of_decide_eq_true h; exact this) fun _ _ _ => .int _
theorem os_mod : OpS g (r2L (rI (fun _ j => 0 < j) fun i j => V.int (i % j))) (l2 dMod) := os_II (fun _ _ h => by have := of_decide_eq_true h; exact this) fun _ _ _ => .int _
theorem os_pow : OpS g (r2L (rI CPow fun i j => V.int (i ^ j.toNat))) (l2 dPow) := os_II (fun _ _ h => by have := of_decide_eq_true h; exact this) fun _ _ _ => .int _
theorem os_shl : OpS g (r2L (rI CShl fun i j => V.int (i * 2 ^ j.toNat))) (l2 dShl) := os_II (fun _ _ h => by have := of_decide_eq_true h; exact this) fun _ _ _ => .int _
theorem os_shr : OpS g (r2L (rI (fun _ j => 0 ≤ j) fun i j => V.int (i / 2 ^ j.toNat))) (l2 dShr) := os_II (fun _ _ h => by have := of_decide_eq_true h; exact this) fun _ _ _ => .int _
theorem os_and : OpS g (r2L (rI0 fun i j => V.int (Builtin.bitAnd i j))) (l2 dAnd) := os_II0 fun _ _ _ => .int _
theorem os_or : OpS g (r2L (rI0 fun i j => V.int (Builtin.bitOr i j))) (l2 dOr) := os_II0 fun _ _ _ => .int _
theorem os_xor : OpS g (r2L (rI0 fun i j => V.int (Builtin.bitXor i j))) (l2 dXor) := os_II0 fun _ _ _ => .int _
def dLt := dII c0 fun i j => .bl (decide (i < j))
def dLe := dII c0 fun i j => .bl (decide (i ≤ j))
def dGt := dII c0 fun i j => .bl (decide (j < i))
def dGe := dII c0 fun i j => .bl (decide (j ≤ i))
theorem os_lt : OpS g (r2L (rI0 fun i j => V.bl (decide (i < j)))) (l2 dLt) := os_II0 fun _ _ _ => .bl _
theorem os_le : OpS g (r2L (rI0 fun i j => V.bl (decide (i ≤ j)))) (l2 dLe) := os_II0 fun _ _ _ => .bl _
theorem os_gt : OpS g (r2L (rI0 fun i j => V.bl (decide (j < i)))) (l2 dGt) := os_II0 fun _ _ _ => .bl _
theorem os_ge : OpS g (r2L (rI0 fun i j => V.bl (decide (j ≤ i)))) (l2 dGe) := os_II0 fun _ _ _ => .bl _
def dNeg : D → Option (Bool × D)
  | .int i => some (false, .int (-i))
  | _ => none
theorem os_neg : OpS g (r1L (rU fun i => V.int (-i))) (l1 dNeg) := .un fun F H x a c Q s p e k => by
  unfold dNeg at e
  split at e
  · cases e; rw [p.int]; exact ⟨_, rfl, k.is s (.int _)⟩
  · cases e

/-! ### deep equality -/
mutual
def D.py : D → Option PyData
  | .non => some .none
  | .bl b => some (.bool b)
  | .int i => some (.int i)
  | .str x => some (.str x)
  | .tup l => (D.pys l).map .tuple
  | .lst l => (D.pys l).map .list
  | _ => none
def D.pys : List D → Option (List PyData)
  | [] => some []
  | a :: r => match D.py a, D.pys r with
    | some x, some xs => some (x :: xs)
    | _, _ => none
end
mutual
theorem py_dp {F : Hp} {K mg} : ∀ {v d}, Rep K mg F v d → ∀ {p}, d.py = some p → Dp K F v p
  | _, _, .non, _, e => by cases e; exact .non
  | _, _, .bl b, _, e => by cases e; exact .bl b
  | _, _, .int b, _, e => by cases e; exact .int b
  | _, _, .str b, _, e => by cases e; exact .str b
  | _, _, .tup h r, p, e => by
    rw [D.py] at e
    obtain ⟨q, e1, rfl⟩ := Option.map_eq_some_iff.mp e
    exact .tup h (pys_dp r e1)
  | _, _, .lst h r, p, e => by
    rw [D.py] at e
    obtain ⟨q, e1, rfl⟩ := Option.map_eq_some_iff.mp e
    exact .lst (.inl (.inl h)) (pys_dp r e1)
  | _, _, .dic h r, p, e => by rw [D.py] at e; cases e; all_goals (intros; contradiction)
  | _, _, .ins h hc r, p, e => by rw [D.py] at e; cases e; all_goals (intros; contradiction)
  | _, _, .scr h, p, e => by rw [D.py] at e; cases e; all_goals (intros; contradiction)
theorem pys_dp {F : Hp} {K mg} : ∀ {vs ds}, Reps K mg F vs ds → ∀ {p}, D.pys ds = some p → DpAll K F vs p
  | _, _, .nil, _, e => by rw [D.pys] at e; cases e; exact .nil
  | _, _, .cons (d := d) (ds := ds) r t, _, e => by
    rw [D.pys] at e
    cases e1 : D.py d with
    | none => rw [e1] at e; cases e
    | some q =>
      cases e2 : D.pys ds with
      | none => rw [e1, e2] at e; cases e
      | some qs =>
        rw [e1, e2] at e
        cases e
        exact .cons (py_dp r e1) (pys_dp t e2)
end
end
end J

namespace J
open PySem PySem.Spec PyProof.Rows L2
section
variable {X : Cx} {g : Gh}
/-! ### equality of data -/
theorem Peek.dp {F H : Hp} {v : V} {d : D} (h : Peek g F H v d) (s : Same F H) {p : PyData} (e : d.py = some p) : Dp g.K H v p := by
  rcases h with h | ⟨_, h⟩
  · exact py_dp (h.up s) e
  · cases h with
    | lst f h r =>
      rw [D.py] at e
      obtain ⟨q, e1, rfl⟩ := Option.map_eq_some_iff.mp e
      exact .lst (.inl (.inl h)) (pys_dp (r.up s) e1)
    | dic f h r => rw [D.py] at e; cases e; all_goals (intros; contradiction)
    | ins f h hc r => rw [D.py] at e; cases e; all_goals (intros; contradiction)
    | deal _ _ _ _ => rw [D.py] at e; cases e; all_goals (intros; contradiction)
    | dealA _ _ => rw [D.py] at e; cases e; all_goals (intros; contradiction)
def dEq (a b : D) : Option (Bool × D) := match a.py, b.py with
  | some p, some q => if (SeqAt.shaped p && SeqAt.shaped q) = true then some (false, .bl (PyData.eqv p q)) else none
  | _, _ => none
def dNe (a b : D) : Option (Bool × D) := match a.py, b.py with
  | some p, some q => if (SeqAt.shaped p && SeqAt.shaped q) = true then some (false, .bl (!PyData.eqv p q)) else none
  | _, _ => none
theorem os_eq : OpS g (r2L (rEqD g.K)) (l2 dEq) := by
  refine .bin fun F H x y a b c Q s p p2 e k => ?_
  unfold dEq at e
  split at e
  · rename_i u w e1 e2
    obtain ⟨z, rfl⟩ := guard_eq e
    rw [Bool.and_eq_true] at z
    exact ⟨u, w, p.dp s e1, p2.dp s e2, z.1, z.2, k.is s (.bl _)⟩
  · cases e
theorem os_ne : OpS g (r2L (rNeD g.K)) (l2 dNe) := by
  refine .bin fun F H x y a b c Q s p p2 e k => ?_
  unfold dNe at e
  split at e
  · rename_i u w e1 e2
    obtain ⟨z, rfl⟩ := guard_eq e
    rw [Bool.and_eq_true] at z
    exact ⟨u, w, p.dp s e1, p2.dp s e2, z.1, z.2, k.is s (.bl _)⟩
  · cases e
/-! ### None -/
def D.isNon : D → Bool
  | .non => true
  | _ => false
def dIsN : D → D → Option (Bool × D)
  | a, .non => some (false, .bl a.isNon)
  | _, _ => none
def dNotN : D → D → Option (Bool × D)
  | a, .non => some (false, .bl (!a.isNon))
  | _, _ => none
theorem Peek.isN {F H : Hp} {v : V} {d : D} (h : Peek g F H v d) : decide (v = .non) = d.isNon := by
  rcases h with h | ⟨_, h⟩ <;> cases h <;> rfl
theorem os_isN : OpS g (r2L (fun x y H Q => y = .non ∧ Q (.bl (decide (x = .non))) H)) (l2 dIsN) := by
  refine .bin fun F H x y a b c Q s p p2 e k => ?_
  unfold dIsN at e
  split at e
  · cases e
    exact ⟨p2.non, by rw [p.isN]; exact k.is s (.bl _)⟩
  · cases e
theorem os_notN : OpS g (r2L (fun x y H Q => y = .non ∧ Q (.bl (!decide (x = .non))) H)) (l2 dNotN) := by
  refine .bin fun F H x y a b c Q s p p2 e k => ?_
  unfold dNotN at e
  split at e
  · cases e
    exact ⟨p2.non, by rw [p.isN]; exact k.is s (.bl _)⟩
  · cases e
/-! ### items -/
def dIx : D → D → Option (Bool × D)
  | .lst l, .int i => (atI l i).map fun d => (false, d)
  | .tup l, .int i => (atI l i).map fun d => (false, d)
  | .str z, .int i => if z.length ≤ sizeLine then (atI z.cps.toList i).map fun c => (false, .str ⟨#[c]⟩) else none
  | _, _ => none
theorem Reps.atI {K mg} {F : Hp} {vs : List V} {ds : List D} (r : Reps K mg F vs ds) {i : Int} {d : D} (h : atI ds i = some d) : ∃ v, atI vs i = some v ∧ Rep K mg F v d := by
  unfold L2.atI at h ⊢
  rw [r.length]
  cases e : ixN ds.length i with
  | none => rw [e] at h; cases h
  | some j =>
    rw [e] at h
    exact r.get h
def rIxA (K : PySem.W.Frag) : R2 := fun x y H Q => rIxL K x y H Q ∨ (rIxT K x y H Q ∨ rIxS x y H Q)
theorem IxR.or' {r r' : R2} (h : IxR X r) (h' : IxR X r') : IxR X (fun x y H Q => r x y H Q ∨ r' x y H Q) := fun value slice pins s σ H x y v u Q I rx ry q hs =>
  q.elim (fun q => h value slice pins s σ H x y v u Q I rx ry q hs) fun q => h' value slice pins s σ H x y v u Q I rx ry q hs
theorem ix_any : IxR X (rIxA X.K) := IxR.or' ix_list (IxR.or' ix_tup ix_str)
theorem os_ix : OpS g (r2L (rIxA g.K)) (l2 dIx) := by
  refine .bin fun F H x y a b c Q s p p2 e k => ?_
  unfold dIx at e
  split at e
  · rename_i l i
    obtain ⟨d, e1, rfl⟩ := Option.map_eq_some_iff.mp e
    obtain ⟨a, us, rfl, ha, ra⟩ := p.lst s
    obtain ⟨v, hv, r⟩ := ra.atI e1
    rw [p2.int]
    exact .inl ⟨a, us, i, v, rfl, rfl, .inl (.inl ha), hv, k.is s r⟩
  · rename_i l i
    obtain ⟨d, e1, rfl⟩ := Option.map_eq_some_iff.mp e
    obtain ⟨a, us, rfl, fa, ha, ra⟩ := p.tup s
    obtain ⟨v, hv, r⟩ := ra.atI e1
    rw [p2.int]
    exact .inr (.inl ⟨a, us, i, v, rfl, rfl, ha, hv, k.is s r⟩)
  · rename_i z i
    by_cases hz : z.length ≤ sizeLine
    · rw [if_pos hz] at e
      obtain ⟨d, e1, rfl⟩ := Option.map_eq_some_iff.mp e
      rw [p.str, p2.int]
      exact .inr (.inr ⟨z, i, d, rfl, rfl, hz, e1, k.is s (.str _)⟩)
    · rw [if_neg hz] at e; cases e
  · cases e
/-! ### slices -/
def cutD {α : Type} (xs : List α) (lo hi : Option Int) : List α := (xs.drop (HT.sIx xs.length 0 lo)).take (HT.sIx xs.length xs.length hi - HT.sIx xs.length 0 lo)
def dSl (lo hi : Option Int) : D → Option (Bool × D)
  | .lst l => some (true, .lst (cutD l lo hi))
  | .tup l => some (false, .tup (cutD l lo hi))
  | .str z => if z.length ≤ sizeLine then some (false, .str (cutS z lo hi)) else none
  | .scr ns => some (true, .lst (cutD (ns.map D.int) lo hi))
  | _ => none
theorem Reps.cut {K mg} {F : Hp} {vs : List V} {ds : List D} (r : Reps K mg F vs ds) (lo hi : Option Int) : Reps K mg F (cutV vs lo hi) (cutD ds lo hi) := by
  unfold cutV cutD
  rw [r.length]
  exact (r.drop _).take _
def rSlAny (K : PySem.W.Frag) : V → Option Int → Option Int → Hp → VK → Prop := fun x lo hi H Q => rSlL K x lo hi H Q ∨ (rSlA K x lo hi H Q ∨ rSlS x lo hi H Q)
theorem sl_any : SlR X (rSlAny X.K) := SlR.or sl_list (SlR.or sl_tupA sl_str)
theorem sl_ok {F H : Hp} {x : V} {a : D} {c : Bool × D} {lo hi : Option Int} {Q : VK} (s : Same F H) (p : Peek g F H x a) (e : dSl lo hi a = some c) (k : Kn g F H Q c) : rSlAny g.K x lo hi H Q := by
  unfold dSl at e
  split at e
  · cases e
    obtain ⟨a, us, rfl, ha, ra⟩ := p.lst s
    exact .inl ⟨a, us, rfl, .inl (.inl ha), fun q hq => k.lst s (ra.cut lo hi) hq⟩
  · cases e
    obtain ⟨a, us, rfl, fa, ha, ra⟩ := p.tup s
    refine .inr (.inl ⟨a, us, rfl, ha, fun hw => ?_, fun hw q hq => k.tup s (ra.cut lo hi) hq⟩)
    rename_i l
    have e2 : cutD l lo hi = l := by
      unfold cutD
      rw [← ra.length, hw.1, hw.2]
      simp [ra.length]
    rw [e2] at k
    exact k.is s (.tup fa ra)
  · obtain ⟨z, rfl⟩ := guard_eq e
    rw [p.str]
    exact .inr (.inr ⟨_, rfl, z, k.is s (.str _)⟩)
  · cases e
    rename_i ns
    rcases p with p | ⟨_, p⟩
    · cases p with
      | scr h => exact .inl ⟨_, _, rfl, SqL.up h s, fun q hq => k.lst s ((Reps.ints ns).cut lo hi) hq⟩
    · cases p
  · cases e
theorem tArg_mono {W : WX} {sa : SArg} {σ : L2.St} {H : Hp} {P P' : VK} (q : tArg g W sa σ H P) (i : ∀ v H, P v H → P' v H) : tArg g W sa σ H P' := by
  cases sa with
  | p j => obtain ⟨v, e, q⟩ := q; exact ⟨v, e, i _ _ q⟩
  | e f =>
    obtain ⟨F, ρ, E, q⟩ := q
    exact ⟨F, ρ, E, q.imp fun a ρ' F' H' _ q v A => i _ _ (q v A)⟩
section
variable {W : WX} {e a b : Expr} {pos p2 : Pos} {sa sb sc : SArg}
def dSl00 : D → Option (Bool × D) := dSl none none
def dSl10 : D → D → Option (Bool × D)
  | a, .int i => dSl (some i) none a
  | _, _ => none
def dSl01 : D → D → Option (Bool × D)
  | a, .int i => dSl none (some i) a
  | _, _ => none
def dSl11 : D → D → D → Option (Bool × D)
  | a, .int i, .int j => dSl (some i) (some j) a
  | _, _, _ => none
def l3 (f : D → D → D → Option (Bool × D)) : List D → Option (Bool × D)
  | [a, b, c] => f a b c
  | _ => none
theorem os_sl00 : OpS g (fun vs H Q => ∃ x, vs = [x] ∧ rSlAny g.K x none none H Q) (l1 dSl00) :=
  .un (r := fun x H Q => rSlAny g.K x none none H Q) fun F H x a c Q s p e k => sl_ok s p e k
theorem os_sl10 : OpS g (r2L fun x y H Q => ∃ i, y = .int i ∧ rSlAny g.K x (some i) none H Q) (l2 dSl10) := .bin fun F H x y a b c Q s p p2 e k => by
  unfold dSl10 at e
  split at e
  · exact ⟨_, p2.int, sl_ok s p e k⟩
  · cases e
theorem os_sl01 : OpS g (r2L fun x y H Q => ∃ i, y = .int i ∧ rSlAny g.K x none (some i) H Q) (l2 dSl01) := .bin fun F H x y a b c Q s p p2 e k => by
  unfold dSl01 at e
  split at e
  · exact ⟨_, p2.int, sl_ok s p e k⟩
  · cases e
theorem os_sl11 : OpS g (fun vs H Q => ∃ x i j, vs = [x, .int i, .int j] ∧ rSlAny g.K x (some i) (some j) H Q) (l3 dSl11) := by
  refine ⟨fun F H vs ds c Q s p e k => ?_⟩
  cases p with
  | nil => cases e
  | cons p t =>
    cases t with
    | nil => cases e
    | cons p2 t =>
      cases t with
      | nil => cases e
      | cons p3 t =>
        cases t with
        | cons _ _ => cases e
        | nil =>
          have e : dSl11 _ _ _ = some c := e
          unfold dSl11 at e
          split at e
          · exact ⟨_, _, _, by rw [p2.int, p3.int], sl_ok s p e k⟩
          · cases e
theorem jsl00 (ha : PE X e (tArg g W sa)) (hK : X.K = g.K) : PE X (.Subscript e (.Slice none none none p2) pos) (tE g W (sOp (l1 dSl00) [sa])) :=
  PEimp (pe_slice sl_any ha po_none po_none) fun σ H Q h => tArg_mono (op_run os_sl00 h) fun v H1 ⟨x, e, q⟩ => by cases e; rw [hK]; exact q
theorem jsl10 (ha : PE X e (tArg g W sa)) (hb : PE X a (tArg g W sb)) (hK : X.K = g.K) : PE X (.Subscript e (.Slice (some a) none none p2) pos) (tE g W (sOp (l2 dSl10) [sa, sb])) :=
  PEimp (pe_slice sl_any ha (po_some hb) po_none) fun σ H Q h => tArg_mono (op_run os_sl10 h) fun v H1 q => tArg_mono q fun u H2 ⟨x, y, e, i, ei, q⟩ => by cases e; exact ⟨i, ei, by rw [hK]; exact q⟩
theorem jsl01 (ha : PE X e (tArg g W sa)) (hb : PE X a (tArg g W sb)) (hK : X.K = g.K) : PE X (.Subscript e (.Slice none (some a) none p2) pos) (tE g W (sOp (l2 dSl01) [sa, sb])) :=
  PEimp (pe_slice sl_any ha po_none (po_some hb)) fun σ H Q h => tArg_mono (op_run os_sl01 h) fun v H1 q => tArg_mono q fun u H2 ⟨x, y, e, i, ei, q⟩ => by cases e; exact ⟨i, ei, by rw [hK]; exact q⟩
def sSl11 (sa sb sc : SArg) : SE := fun ρ => (evArg sa ρ).bind fun x ρ1 => (evArg sb ρ1).bind fun y ρ2 => match deref ρ2 y with
  | some (.int i) => (evArg sc ρ2).bind fun z ρ3 => match deref ρ3 x, deref ρ3 z with
    | some a, some (.int j) => (match dSl (some i) (some j) a with
      | some r => .ok r ρ3
      | none => .no)
    | _, _ => .no
  | _ => .no
theorem jsl11 (ha : PE X e (tArg g W sa)) (hb : PE X a (tArg g W sb)) (hc : PE X b (tArg g W sc)) (hK : X.K = g.K) : PE X (.Subscript e (.Slice (some a) (some b) none p2) pos) (tE g W (sSl11 sa sb sc)) := by
  refine PEimp (pe_slice sl_any ha (po_some hb) (po_some hc)) fun σ H Q h => ?_
  obtain ⟨F, ρ, E, h⟩ := h
  refine arg_run E ((Goes.bind h).imp fun x ρ1 F1 H1 u1 q E1 vx hx => ?_)
  refine arg_run E1 ((Goes.bind q).imp fun y ρ2 F2 H2 u2 q E2 vy hy => ?_)
  cases e1 : deref ρ2 y with
  | none => rw [e1] at q; exact q.elim
  | some d =>
    rw [e1] at q
    cases d with
    | int i =>
      refine ⟨i, (deref_peek E2 hy e1).int, ?_⟩
      refine arg_run E2 ((Goes.bind q).imp fun z ρ3 F3 H3 u3 q E3 vz hz => ?_)
      cases e2 : deref ρ3 x with
      | none => rw [e2] at q; exact q.elim
      | some d =>
        cases e3 : deref ρ3 z with
        | none => rw [e2, e3] at q; exact q.elim
        | some d3 =>
          rw [e2, e3] at q
          cases d3 with
          | int j =>
            refine ⟨j, (deref_peek E3 hz e3).int, ?_⟩
            have q : Goes g W σ F3 (match dSl (some i) (some j) d with | some r => R.ok r ρ3 | none => R.no) _ := q
            cases e4 : dSl (some i) (some j) d with
            | none => rw [e4] at q; exact q.elim
            | some r =>
              rw [e4] at q
              rw [hK]
              exact sl_ok E3.sub (deref_peek E3 ((hx.up u2).up u3) e2) e4 fun v H4 F4 n k => q F4 H4 n.uF v (E3.after n k)
          | _ => exact q.elim
    | _ => exact q.elim
end
end
end J

namespace J
open PySem PySem.Spec PyProof.Rows L2
section
variable {X : Cx} {g : Gh}
/-! ### built-in functions -/
def dLen : D → Option (Bool × D)
  | .str y => if y.length ≤ sizeLine then some (false, .int y.length) else none
  | .lst l => some (false, .int l.length)
  | .tup l => some (false, .int l.length)
  | .dic l => some (false, .int l.length)
  | _ => none
def rLenA (K : PySem.W.Frag) : List V → Hp → VK → Prop := fun xs H Q => (∃ x n, xs = [x] ∧ LenV K x H n ∧ Q (.int n) H) ∨ ∃ a kvs, xs = [V.ref a] ∧ H a = some (.dK kvs) ∧ Q (.int kvs.length) H
theorem cr_len : CallR X (.builtin "len") (rLenA X.K) := CallR.or call_len call_lenD
theorem RepK.length {K mg} {F : Hp} {vs : List (Key × V)} {ds : List (D × D)} (r : RepK K mg F vs ds) : vs.length = ds.length := by
  induction vs generalizing ds with
  | nil => cases r; rfl
  | cons v vs ih =>
    cases r with
    | cons r t => simp [ih t]
theorem os_len : OpS g (rLenA g.K) (l1 dLen) := by
  refine .one fun F H x a c Q s p e k => ?_
  unfold dLen at e
  split at e
  · obtain ⟨z, rfl⟩ := guard_eq e
    rw [p.str]
    exact .inl ⟨_, _, rfl, ⟨z, rfl⟩, k.is s (.int _)⟩
  · cases e
    obtain ⟨a, us, rfl, ha, ra⟩ := p.lst s
    refine .inl ⟨_, us.length, rfl, .inl ⟨us, .inl (.inl ha), rfl⟩, ?_⟩
    rw [ra.length]; exact k.is s (.int _)
  · cases e
    obtain ⟨a, us, rfl, fa, ha, ra⟩ := p.tup s
    refine .inl ⟨_, us.length, rfl, .inr ⟨us, ha, rfl⟩, ?_⟩
    rw [ra.length]; exact k.is s (.int _)
  · cases e
    obtain ⟨a, us, rfl, ha, ra⟩ := p.dic s
    refine .inr ⟨a, us, rfl, ha, ?_⟩
    rw [ra.length]; exact k.is s (.int _)
  · cases e
def dAbs : D → Option (Bool × D)
  | .int i => some (false, .int (if i < 0 then -i else i))
  | _ => none
theorem os_abs : OpS g (fun xs H Q => ∃ i, xs = [.int i] ∧ Q (.int (if i < 0 then -i else i)) H) (l1 dAbs) := by
  refine .one fun F H x a c Q s p e k => ?_
  unfold dAbs at e
  split at e
  · cases e; rw [p.int]; exact ⟨_, rfl, k.is s (.int _)⟩
  · cases e
def dInt : D → Option (Bool × D)
  | .int i => some (false, .int i)
  | .bl b => some (false, .int (if b then 1 else 0))
  | .str a => match PySem.intText? a with
    | some n => if a.length ≤ 640 then some (false, .int n) else none
    | none => none
  | _ => none
def rIntA : List V → Hp → VK → Prop := fun xs H Q => ((∃ i, xs = [.int i] ∧ Q (.int i) H) ∨ ∃ k, xs = [.bl k] ∧ Q (.int (if k then 1 else 0)) H) ∨ ∃ a n, xs = [.str a] ∧ PySem.intText? a = some n ∧ a.length ≤ 640 ∧ Q (.int n) H
theorem cr_int : CallR X (.type "int") rIntA := CallR.or call_int1 call_int_str
theorem os_int : OpS g rIntA (l1 dInt) := by
  refine .one fun F H x a c Q s p e k => ?_
  unfold dInt at e
  split at e
  · cases e; rw [p.int]; exact .inl (.inl ⟨_, rfl, k.is s (.int _)⟩)
  · cases e; rw [p.bl]; exact .inl (.inr ⟨_, rfl, k.is s (.int _)⟩)
  · split at e
    · rename_i n e1
      obtain ⟨z, rfl⟩ := guard_eq e
      rw [p.str]; exact .inr ⟨_, n, rfl, e1, z, k.is s (.int _)⟩
    · cases e
  · cases e
def dStr : D → Option (Bool × D)
  | .int i => if i.natAbs.log2 < 1920 then some (false, .str (toString i)) else none
  | .str a => some (false, .str a)
  | _ => none
def rStrA : List V → Hp → VK → Prop := fun xs H Q => (∃ i, xs = [.int i] ∧ i.natAbs.log2 < 1920 ∧ Q (.str (toString i)) H) ∨ ∃ a, xs = [.str a] ∧ Q (.str a) H
theorem cr_str : CallR X (.type "str") rStrA := CallR.or call_str_int SkE.call_str_str
theorem os_str : OpS g rStrA (l1 dStr) := by
  refine .one fun F H x a c Q s p e k => ?_
  unfold dStr at e
  split at e
  · obtain ⟨z, rfl⟩ := guard_eq e
    rw [p.int]; exact .inl ⟨_, rfl, z, k.is s (.str _)⟩
  · cases e; rw [p.str]; exact .inr ⟨_, rfl, k.is s (.str _)⟩
  · cases e
def dList : D → Option (Bool × D)
  | .lst l => some (true, .lst l)
  | .tup l => some (true, .lst l)
  | _ => none
def dTuple : D → Option (Bool × D)
  | .lst l => some (false, .tup l)
  | .tup l => some (false, .tup l)
  | _ => none
theorem os_list : OpS g (fun xs H Q => ∃ p ys, xs = [.ref p] ∧ (SqL g.K H p ys ∨ SqT g.K H p ys) ∧ ∀ l, H l = none → Q (.ref l) (upd H l (.lst ys))) (l1 dList) := by
  refine .one fun F H x a c Q s p e k => ?_
  unfold dList at e
  split at e
  · cases e
    obtain ⟨a, us, rfl, ha, ra⟩ := p.lst s
    exact ⟨a, us, rfl, .inl (.inl (.inl ha)), fun l hl => k.lst s ra hl⟩
  · cases e
    obtain ⟨a, us, rfl, fa, ha, ra⟩ := p.tup s
    exact ⟨a, us, rfl, .inr ha, fun l hl => k.lst s ra hl⟩
  · cases e
theorem os_tuple : OpS g (fun xs H Q => ∃ p ys, xs = [.ref p] ∧ ((SqL g.K H p ys ∧ ∀ l, H l = none → Q (.ref l) (upd H l (.tup ys))) ∨ (SqT g.K H p ys ∧ Q (.ref p) H))) (l1 dTuple) := by
  refine .one fun F H x a c Q s p e k => ?_
  unfold dTuple at e
  split at e
  · cases e
    obtain ⟨a, us, rfl, ha, ra⟩ := p.lst s
    exact ⟨a, us, rfl, .inl ⟨.inl (.inl ha), fun l hl => k.tup s ra hl⟩⟩
  · cases e
    obtain ⟨a, us, rfl, fa, ha, ra⟩ := p.tup s
    exact ⟨a, us, rfl, .inr ⟨ha, k.is s (.tup fa ra)⟩⟩
  · cases e
/-! ### repr of data -/
def showOk (p : PyData) : Bool := p.showable && !p.hasDict && decide (p.depth ≤ 60) && decide (p.shown.length ≤ sizeLine)
def dRepr (a : D) : Option (Bool × D) := match a.py with
  | some p => if showOk p = true then some (false, .str p.shown) else none
  | none => none
def rRepr (K : PySem.W.Frag) : List V → Hp → VK → Prop := fun xs H Q => ∃ x p, xs = [x] ∧ Dp K H x p ∧ showOk p = true ∧ Q (.str p.shown) H
theorem cr_repr (hG : X.A.guards = some []) (hu : X.A.units + 64 < cLine) : CallR X (.builtin "repr") (rRepr X.K) := by
  intro pins s σ H xs us Q I r h
  obtain ⟨x, p, rfl, hd, ok, q⟩ := h
  obtain ⟨u, rfl, rx⟩ := vals1 r
  unfold showOk at ok
  simp only [Bool.and_eq_true, decide_eq_true_eq, Bool.not_eq_true'] at ok
  obtain ⟨⟨⟨o1, o2⟩, o3⟩, o4⟩ := ok
  obtain ⟨as, rd⟩ := Dp.reads I p x u hd rx
  cases hd with
  | non => cases rx; exact PySem.P.repr_of_none ⟨.str _, H, I.tok _, ⟨_, rfl⟩, q⟩
  | bl b => cases rx; exact PySem.P.repr_of_bool ⟨.str _, H, I.tok _, ⟨_, rfl⟩, q⟩
  | int i => obtain ⟨t, rfl⟩ := rx; exact PySem.P.repr_of_int (by simpa [PyData.showable] using o1) ⟨.str _, H, I.tok _, ⟨_, rfl⟩, q⟩
  | str z => obtain ⟨t, rfl⟩ := rx; exact PySem.P.repr_of_str (h := ⟨.str _, H, I.tok _, ⟨_, rfl⟩, q⟩) (hsz := by simpa [PyData.shown] using o4)
  | lst h1 h2 =>
    cases rx
    exact repr_of_reads' rd o1 (fun z => by rw [o2] at z; cases z) hG (by omega) (fun b o e => e) (fun h' u tk keep => ⟨.str _, H, I.kept keep, ⟨_, rfl⟩, q⟩) o4
  | tup h1 h2 =>
    cases rx
    exact repr_of_reads' rd o1 (fun z => by rw [o2] at z; cases z) hG (by omega) (fun b o e => e) (fun h' u tk keep => ⟨.str _, H, I.kept keep, ⟨_, rfl⟩, q⟩) o4
theorem os_repr : OpS g (rRepr g.K) (l1 dRepr) := by
  refine .one fun F H x a c Q s p e k => ?_
  unfold dRepr at e
  split at e
  · rename_i d e1
    obtain ⟨z, rfl⟩ := guard_eq e
    exact ⟨x, d, rfl, p.dp s e1, z, k.is s (.str _)⟩
  · cases e
end

/-! ## displays -/
def frz : List Arg → Option (List D)
  | [] => some []
  | .d d :: r => match frz r with
    | some ds => some (d :: ds)
    | none => none
  | .p _ :: _ => none
def sDisp (sem : List D → Option (Bool × D)) (l : List SArg) : SE := fun ρ => (evArgs l ρ).bind fun as ρ' => match frz as with
  | some ds => (match sem ds with
    | some a => .ok a ρ'
    | none => .no)
  | none => .no
structure OpF (g : Gh) (r : List V → Hp → VK → Prop) (sem : List D → Option (Bool × D)) : Prop where
  run : ∀ F H vs ds a Q, Same F H → Reps g.K g.mg F vs ds → sem ds = some a → Kn g F H Q a → r vs H Q
section
variable {X : Cx} {g : Gh} {W : WX} {pos : Pos}
theorem frz_reps {F : Hp} {σ : L2.St} {vs : List V} {as : List Arg} (h : ArgVs g F σ vs as) {ds : List D} (e : frz as = some ds) : Reps g.K g.mg F vs ds := by
  induction h generalizing ds with
  | nil => cases e; exact .nil
  | cons h t ih =>
    rename_i v a vs as
    cases a with
    | p i => cases e
    | d d =>
      rw [frz] at e
      cases e1 : frz as with
      | none => rw [e1] at e; cases e
      | some ds' => rw [e1] at e; cases e; exact .cons h (ih e1)
theorem disp_run {r : List V → Hp → VK → Prop} {sem : List D → Option (Bool × D)} {l : List SArg} {σ : L2.St} {H : Hp} {Q : VK} (o : OpF g r sem) (h : tE g W (sDisp sem l) σ H Q) : tArgs g W l σ H (fun vs H1 => r vs H1 Q) := by
  obtain ⟨F, ρ, E, h⟩ := h
  refine args_run E ((Goes.bind h).imp fun xs ρ' F' H' u q E' vs hvs => ?_)
  cases e : frz xs with
  | none => rw [e] at q; exact q.elim
  | some ds =>
    rw [e] at q
    cases e2 : sem ds with
    | none => simp only [e2] at q; exact q.elim
    | some a =>
      simp only [e2] at q
      exact o.run F' H' vs ds a Q E'.sub (frz_reps hvs e) e2 fun v H2 F2 n k => q F2 H2 n.uF v (E'.after n k)
def mTup (ds : List D) : Option (Bool × D) := if ds.length ≤ sizeLine then some (false, .tup ds) else none
def mLst (ds : List D) : Option (Bool × D) := if ds.length ≤ sizeLine then some (true, .lst ds) else none
theorem of_tup : OpF g (fun xs H Q => xs.length ≤ sizeLine ∧ ∀ p, H p = none → Q (.ref p) (upd H p (.tup xs))) mTup := by
  refine ⟨fun F H vs ds a Q s r e k => ?_⟩
  obtain ⟨z, rfl⟩ := guard_eq e
  exact ⟨by rw [r.length]; exact z, fun p hp => k.tup s r hp⟩
theorem of_lst : OpF g (fun xs H Q => xs.length ≤ sizeLine ∧ ∀ p, H p = none → Q (.ref p) (upd H p (.lst xs))) mLst := by
  refine ⟨fun F H vs ds a Q s r e k => ?_⟩
  obtain ⟨z, rfl⟩ := guard_eq e
  exact ⟨by rw [r.length]; exact z, fun p hp => k.lst s r hp⟩
theorem jtup {es : List Expr} {l : List SArg} {x1} (h : PA X es (tArgs g W l)) : PE X (.Tuple es x1 pos) (tE g W (sDisp mTup l)) := PEimp (pe_tup h) fun _ _ _ q => disp_run of_tup q
theorem jlst {es : List Expr} {l : List SArg} (h : PA X es (tArgs g W l)) : PE X (.List es pos) (tE g W (sDisp mLst l)) := PEimp (pe_lst h) fun _ _ _ q => disp_run of_lst q

/-! ## xs[::-1] -/
def dRev : D → Option (Bool × D)
  | .lst l => some (true, .lst l.reverse)
  | _ => none
theorem os_rev : OpS g (r1L fun x H Q => ∃ a xs, x = .ref a ∧ SqL g.K H a xs ∧ ∀ p, H p = none → Q (.ref p) (upd H p (.lst xs.reverse))) (l1 dRev) := by
  refine .un fun F H x a c Q s p e k => ?_
  unfold dRev at e
  split at e
  · cases e
    obtain ⟨a, us, rfl, ha, ra⟩ := p.lst s
    exact ⟨a, us, rfl, .inl (.inl ha), fun p hp => k.lst s ra.rev hp⟩
  · cases e
theorem jrev {e : Expr} {sa : SArg} {k : Nat} {p1 p2 p3 : Pos} (h : PE X e (tArg g W sa)) (hK : X.K = g.K) : PE X (.Subscript e (.Slice none none (some (.UnaryOp .USub (.Constant (.int 1) k p1) p2)) p3) pos) (tE g W (sOp (l1 dRev) [sa])) :=
  PEimp (pe_revL h) fun σ H Q q => tArg_mono (op_run os_rev q) fun v H1 ⟨x, e, z⟩ => by cases e; rw [hK]; exact z
end
end J

namespace J
open PySem PySem.Spec PyProof.Rows L2

/-- what a body's context bears -/
structure Ctx (X : Cx) (k : Nat) (W : WX) : Prop where
  calm : X.calm = true
  grd : X.A.guards = some []
  room : Room k X.A
  pass : PassesOwn (model X.prog X.w) X.A X.env X.xe
  takes : Takes X W
  nd : X.N.Nodup
structure Gok (X : Cx) (g : Gh) : Prop where
  K : X.K = g.K
  mg : X.mg = g.mg

inductive RS where
  | nx (ρ : Env)
  | rt (a : Bool × D) (ρ : Env)
  | bk (ρ : Env)
  | ct (ρ : Env)
  | exc (x : D) (ρ : Env)
  | no
abbrev SS := Env → RS
def GoesS (g : Gh) (W : WX) (F : Hp) (r : RS) (E : Ends) : Prop :=
  match r with
  | .nx ρ' => ∀ σ' F' H', EnvOk g F' H' ρ' σ' → Same F F' → E.nx σ' H'
  | .rt a ρ' => ∀ v σ' F' H', After g F' H' ρ' σ' v a → Same F F' → E.rt v H'
  | .bk ρ' => ∀ σ' F' H', EnvOk g F' H' ρ' σ' → Same F F' → E.bk σ' H'
  | .ct ρ' => ∀ σ' F' H', EnvOk g F' H' ρ' σ' → Same F F' → E.ct σ' H'
  | .exc x ρ' => ∀ cls dd σ' F' H', EnvOk g F' H' ρ' σ' → Same F F' → ExcV g F' cls dd x → W cls dd σ' H'
  | .no => False
def tS (g : Gh) (W : WX) (f : SS) : TS := fun E σ H => ∃ F ρ, EnvOk g F H ρ σ ∧ GoesS g W F (f ρ) E

theorem GoesS.up {g : Gh} {W : WX} {F F' : Hp} {r : RS} {E : Ends} (h : GoesS g W F r E) (u : Same F F') : GoesS g W F' r E := by
  cases r with
  | nx ρ' => exact fun σ' F1 H1 e s => h σ' F1 H1 e (u.trans s)
  | rt a ρ' => exact fun v σ' F1 H1 e s => h v σ' F1 H1 e (u.trans s)
  | bk ρ' => exact fun σ' F1 H1 e s => h σ' F1 H1 e (u.trans s)
  | ct ρ' => exact fun σ' F1 H1 e s => h σ' F1 H1 e (u.trans s)
  | exc x ρ' => exact fun cls dd σ' F1 H1 e s => h cls dd σ' F1 H1 e (u.trans s)
  | no => exact h

/-- an expression, then a statement -/
def thenS {α : Type} (r : R α) (k : α → Env → RS) : RS :=
  match r with
  | .ok a ρ => k a ρ
  | .exc x ρ => .exc x ρ
  | .no => .no
theorem GoesS.expr {α : Type} {g : Gh} {W : WX} {σ : L2.St} {F : Hp} {r : R α} {k : α → Env → RS} {E : Ends} (h : GoesS g W F (thenS r k) E) : Goes g W σ F r (fun a ρ' F' _ => GoesS g W F' (k a ρ') E) := by
  cases r with
  | ok a ρ' => exact fun F1 H1 s => GoesS.up (r := k a ρ') h s
  | exc x ρ' => exact fun cls dd F1 H1 e s => h cls dd σ F1 H1 e s
  | no => exact h
/-- one statement, then another -/
def seqS (r : RS) (k : Env → RS) : RS :=
  match r with
  | .nx ρ => k ρ
  | r => r

/-! ## blocks -/
def bNil : SS := fun ρ => .nx ρ
def bCons (f k : SS) : SS := fun ρ => seqS (f ρ) k
section
variable {X : Cx} {g : Gh} {W : WX} {pos : Pos}
theorem kNil : PSs X [] (tS g W bNil) := PSsimp pss_nil fun E σ H ⟨F, ρ, e, q⟩ => q σ F H e (.refl _)
theorem kCons {st : Stmt} {rest : List Stmt} {f k : SS} (h1 : PS X st (tS g W f)) (h2 : PSs X rest (tS g W k)) : PSs X (st :: rest) (tS g W (bCons f k)) := by
  refine PSsimp (pss_cons h1 h2) fun E σ H ⟨F, ρ, e, q⟩ => ⟨F, ρ, e, ?_⟩
  unfold bCons at q
  cases hr : f ρ with
  | nx ρ' =>
    rw [hr] at q
    exact fun σ' F' H' e' s => ⟨F', ρ', e', GoesS.up (r := k ρ') q s⟩
  | rt a ρ' => rw [hr] at q; exact q
  | bk ρ' => rw [hr] at q; exact q
  | ct ρ' => rw [hr] at q; exact q
  | exc x ρ' => rw [hr] at q; exact q
  | no => rw [hr] at q; exact q
theorem kOne {st : Stmt} {f : SS} (h1 : PS X st (tS g W f)) : PSs X [st] (tS g W f) := pss_one h1

/-! ## small statements -/
/-- a slot that is stored to -/
def stS (i : Nat) (a : Bool × D) (ρ : Env) : Option Env := match ρ[i]? with
  | some t => if t.open = true then some (ρ.set i (if a.1 = true then .own a.2 else .val a.2)) else none
  | none => none
theorem After.store {F H : Hp} {ρ ρ2 : Env} {σ : L2.St} {v : V} {i : Nat} {a : Bool × D} (h : After g F H ρ σ v a) (e : stS i a ρ = some ρ2) : EnvOk g F H ρ2 (σ.set i (some v)) := by
  unfold stS at e
  cases hi : ρ[i]? with
  | none => rw [hi] at e; cases e
  | some t =>
    rw [hi] at e
    by_cases ho : t.open = true
    · dsimp only at e
      rw [if_pos ho] at e; cases e
      obtain ⟨fr, d⟩ := a
      cases fr with
      | true => exact EnvOk.move h hi ho
      | false => exact h.1.put h.2 hi ho
    · dsimp only at e
      rw [if_neg ho] at e; cases e
def bSet (i : Nat) (f : SE) : SS := fun ρ => thenS (f ρ) fun a ρ' => match stS i a ρ' with
  | some ρ'' => .nx ρ''
  | none => .no
theorem set_run {i : Nat} {f : SE} {E : Ends} {σ : L2.St} {H : Hp} (h : tS g W (bSet i f) E σ H) : tE g W f σ H fun x H1 => E.nx (σ.set i (some x)) H1 := by
  obtain ⟨F, ρ, e, q⟩ := h
  refine ⟨F, ρ, e, (GoesS.expr q).imp fun a ρ' F' H' u q v A => ?_⟩
  cases hs : stS i a ρ' with
  | none => rw [hs] at q; exact q.elim
  | some ρ2 => rw [hs] at q; exact q _ F' H' (A.store hs) (.refl _)
theorem kSet {i : Nat} {x : Str} {e : Expr} {pos' : Pos} {f : SE} (nd : X.N.Nodup) (hi : X.N[i]? = some x) (hx : Loc X.env.scope x) (he : PE X e (tE g W f))
    (hsw : swapsWith e (some (.Name x pos')) pos.line X.env = pure false := by rfl) (hf : X.fn x = true ∨ X.env.scope.names.lookup x = some .local := by first | exact .inl rfl | exact .inr rfl | assumption) : PS X (.Assign [.Name x pos'] e pos) (tS g W (bSet i f)) :=
  PSimp (ps_set nd hi hx he hsw hf) fun E σ H h => set_run h
def bExpr (f : SE) : SS := fun ρ => thenS (f ρ) fun _ ρ' => .nx ρ'
theorem kExpr {e : Expr} {f : SE} (he : PE X e (tE g W f)) (hs : swapsWith e none pos.line X.env = pure false := by rfl) : PS X (.Expr e pos) (tS g W (bExpr f)) :=
  PSimp (ps_expr he hs) fun E σ H ⟨F, ρ, e, q⟩ => ⟨F, ρ, e, (GoesS.expr q).imp fun a ρ' F' H' u q v A => q σ F' H' A.env (.refl _)⟩
/-- a value that leaves: an owned slot is moved, not frozen -/
def mvVar (i : Nat) : SE := fun ρ => match ρ[i]? with
  | some (.val d) => .ok (false, d) ρ
  | some (.own d) => .ok (true, d) (ρ.set i .no)
  | _ => .no
def bRet (f : SE) : SS := fun ρ => thenS (f ρ) fun a ρ' => .rt a ρ'
theorem kRet {e : Expr} {f : SE} (he : PE X e (tE g W f)) : PS X (.Return (some e) pos) (tS g W (bRet f)) :=
  PSimp (ps_ret he) fun E σ H ⟨F, ρ, e, q⟩ => ⟨F, ρ, e, (GoesS.expr q).imp fun a ρ' F' H' u q v A => q v σ F' H' A (.refl _)⟩
def bRetN : SS := fun ρ => .rt (false, .non) ρ
theorem kRetN : PS X (.Return none pos) (tS g W bRetN) := PSimp ps_retN fun E σ H ⟨F, ρ, e, q⟩ => q .non σ F H ⟨e, .non⟩ (.refl _)
def bPass : SS := fun ρ => .nx ρ
theorem kPass : PS X (.Pass pos) (tS g W bPass) := PSimp ps_pass fun E σ H ⟨F, ρ, e, q⟩ => q σ F H e (.refl _)
theorem kBreak : PS X (.Break pos) (tS g W RS.bk) := PSimp ps_break fun E σ H ⟨F, ρ, e, q⟩ => q σ F H e (.refl _)
theorem kContinue : PS X (.Continue pos) (tS g W RS.ct) := PSimp ps_continue fun E σ H ⟨F, ρ, e, q⟩ => q σ F H e (.refl _)
def bIf (c : ST) (f k : SS) : SS := fun ρ => thenS (c ρ) fun b ρ' => if b = true then f ρ' else k ρ'
theorem kIf {c : Expr} {tt ee : List Stmt} {fc : ST} {f k : SS} (hc : PT X c (tT g W fc)) (hf : PSs X tt (tS g W f)) (hk : PSs X ee (tS g W k)) : PS X (.If c tt ee pos) (tS g W (bIf fc f k)) := by
  refine PSimp (ps_if hc hf hk) fun E σ H ⟨F, ρ, e, q⟩ => ⟨F, ρ, e, (GoesS.expr q).imp fun b ρ' F' H' u q e' => ?_⟩
  cases b with
  | true => rw [if_pos rfl] at q ⊢; exact ⟨F', ρ', e', q⟩
  | false => rw [if_neg (by decide)] at q ⊢; exact ⟨F', ρ', e', q⟩

/-! ## tests -/
def D.truth : D → Option Bool
  | .non => some false
  | .bl b => some b
  | .int i => some (i != 0)
  | .str y => if y.length ≤ sizeLine then some ((y.length : Int) != 0) else none
  | .tup l => some (!l.isEmpty)
  | .lst l => some (!l.isEmpty)
  | .dic l => some (!l.isEmpty)
  | _ => none
theorem Peek.truth {F H : Hp} {v : V} {d : D} {b : Bool} (h : Peek g F H v d) (s : Same F H) (e : d.truth = some b) : TruV g.K v H b := by
  unfold D.truth at e
  split at e
  · cases e; rw [h.non]; rfl
  · cases e; rw [h.bl]; rfl
  · cases e; rw [h.int]; rfl
  · rename_i y
    by_cases z : y.length ≤ sizeLine
    · rw [if_pos z] at e; cases e; rw [h.str]; exact ⟨z, rfl⟩
    · rw [if_neg z] at e; cases e
  · cases e
    obtain ⟨a, us, rfl, fa, ha, ra⟩ := h.tup s
    exact .inr (.inl ⟨us, ha, by cases ra <;> rfl⟩)
  · cases e
    obtain ⟨a, us, rfl, ha, ra⟩ := h.lst s
    exact .inl ⟨us, .inl (.inl ha), by cases ra <;> rfl⟩
  · cases e
    obtain ⟨a, us, rfl, ha, ra⟩ := h.dic s
    exact .inr (.inr ⟨us, ha, by cases ra <;> rfl⟩)
  · cases e
/-- the truth of a value -/
def cTru (a : SArg) : ST := fun ρ => (evArg a ρ).bind fun x ρ' => match deref ρ' x with
  | some d => (match d.truth with
    | some b => .ok b ρ'
    | none => .no)
  | none => .no
theorem tru_run {a : SArg} {σ : L2.St} {H : Hp} {Q : Bool → Hp → Prop} (h : tT g W (cTru a) σ H Q) : tArg g W a σ H fun x H1 => ∃ k, TruV g.K x H1 k ∧ Q k H1 := by
  obtain ⟨F, ρ, e, q⟩ := h
  refine arg_run e ((Goes.bind q).imp fun x ρ' F' H' u q e' v hv => ?_)
  cases e1 : deref ρ' x with
  | none => rw [e1] at q; exact q.elim
  | some d =>
    cases e2 : d.truth with
    | none => simp only [e1, e2] at q; exact q.elim
    | some b => simp only [e1, e2] at q; exact ⟨b, (deref_peek e' hv e1).truth e'.sub e2, q F' H' (.refl _) e'⟩
theorem tTru {e : Expr} {a : SArg} (he : PE X e (tArg g W a)) (hK : X.K = g.K) (hi : ∀ whole, isTrue e X.env whole = (do let v ← whole; standAt e.pos; holding [v] (truthy v)) := by intro _; rfl) : PT X e (tT g W (cTru a)) :=
  PTimp (pt_truth he hi) fun σ H Q h => tArg_mono (tru_run h) fun v H1 q => by rw [hK]; exact q
/-- a bool that an expression gives -/
def D.isB : D → Option Bool
  | .bl b => some b
  | _ => none
def cVal (f : SE) : ST := fun ρ => (f ρ).bind fun a ρ' => match a.1, a.2.isB with
  | false, some b => .ok b ρ'
  | _, _ => .no
theorem val_run {f : SE} {σ : L2.St} {H : Hp} {Q : Bool → Hp → Prop} (h : tT g W (cVal f) σ H Q) : tE g W f σ H fun x H1 => ∃ k, x = .bl k ∧ Q k H1 := by
  obtain ⟨F, ρ, e, q⟩ := h
  refine ⟨F, ρ, e, (Goes.bind q).imp fun a ρ' F' H' u q v A => ?_⟩
  obtain ⟨fr, d⟩ := a
  cases fr with
  | true => exact q.elim
  | false =>
    dsimp only at q
    cases e1 : d.isB with
    | none => rw [e1] at q; exact q.elim
    | some b =>
      rw [e1] at q
      have : d = .bl b := by
        unfold D.isB at e1
        split at e1 <;> (cases e1; try rfl)
      subst this
      exact ⟨b, by have := A.2; cases this; rfl, q F' H' (.refl _) A.env⟩
/-- a comparison as a test -/
theorem tCmp {op : CmpOp} {r : R2} {sem : List D → Option (Bool × D)} {a b : Expr} {sa sb : SArg} (ho : OpR X (compareOp op) r) (os : OpS g (r2L r) sem) (ha : PE X a (tArg g W sa)) (hb : PE X b (tArg g W sb)) (hm : behindInMarks op b = false) : PT X (.Compare a [op] [b] pos) (tT g W (cVal (sOp sem [sa, sb]))) :=
  PTimp (pt_cmpR ho ha hb hm) fun σ H Q h => two_run os (val_run h)
def cNot (c : ST) : ST := fun ρ => (c ρ).bind fun b ρ' => .ok (!b) ρ'
theorem tNotJ {a : Expr} {c : ST} (h : PT X a (tT g W c)) : PT X (.UnaryOp .Not a pos) (tT g W (cNot c)) :=
  PTimp (pt_not h) fun σ H Q ⟨F, ρ, e, q⟩ => ⟨F, ρ, e, (Goes.bind q).imp fun b ρ' F' H' u q e' => q F' H' (.refl _) e'⟩
def cAnd (c d : ST) : ST := fun ρ => (c ρ).bind fun b ρ' => if b = true then d ρ' else .ok false ρ'
def cOr (c d : ST) : ST := fun ρ => (c ρ).bind fun b ρ' => if b = true then .ok true ρ' else d ρ'
theorem wOne {op} {a : Expr} {c : ST} (h : PT X a (tT g W c)) (ho : op = .And ∨ op = .Or) : PW X (.BoolOp op [a] pos) (tT g W c) := by
  rcases ho with rfl | rfl
  · exact pw_and1 h
  · exact pw_or1 h
theorem wAnd {a b : Expr} {rest : List Expr} {c d : ST} (ha : PT X a (tT g W c)) (hb : PW X (.BoolOp .And (b :: rest) pos) (tT g W d)) : PW X (.BoolOp .And (a :: b :: rest) pos) (tT g W (cAnd c d)) :=
  PWimp (pw_and ha hb) fun σ H Q ⟨F, ρ, e, q⟩ => ⟨F, ρ, e, (Goes.bind q).imp fun b ρ' F' H' u q e' => by
    cases b with
    | true => rw [if_pos rfl] at q ⊢; exact ⟨F', ρ', e', q⟩
    | false => rw [if_neg (by decide)] at q ⊢; exact q F' H' (.refl _) e'⟩
theorem wOr {a b : Expr} {rest : List Expr} {c d : ST} (ha : PT X a (tT g W c)) (hb : PW X (.BoolOp .Or (b :: rest) pos) (tT g W d)) : PW X (.BoolOp .Or (a :: b :: rest) pos) (tT g W (cOr c d)) :=
  PWimp (pw_or ha hb) fun σ H Q ⟨F, ρ, e, q⟩ => ⟨F, ρ, e, (Goes.bind q).imp fun b ρ' F' H' u q e' => by
    cases b with
    | true => rw [if_pos rfl] at q ⊢; exact q F' H' (.refl _) e'
    | false => rw [if_neg (by decide)] at q ⊢; exact ⟨F', ρ', e', q⟩⟩
/-- and, or of bools, as values; a if t else b -/
def sAnd (f k : SE) : SE := fun ρ => (f ρ).bind fun a ρ' => match a.1, a.2.isB with
  | false, some b => if b = true then k ρ' else .ok (false, .bl false) ρ'
  | _, _ => .no
def sOr (f k : SE) : SE := fun ρ => (f ρ).bind fun a ρ' => match a.1, a.2.isB with
  | false, some b => if b = true then .ok (false, .bl true) ρ' else k ρ'
  | _, _ => .no
def sNot (f : SE) : SE := fun ρ => (f ρ).bind fun a ρ' => match a.1, a.2.isB with
  | false, some b => .ok (false, .bl (!b)) ρ'
  | _, _ => .no
def sIf (c : ST) (f k : SE) : SE := fun ρ => (c ρ).bind fun b ρ' => if b = true then f ρ' else k ρ'
theorem isB_eq {d : D} {b : Bool} (e : d.isB = some b) : d = .bl b := by
  unfold D.isB at e
  split at e <;> (cases e; try rfl)
theorem jAnd {a b : Expr} {rest : List Expr} {f k : SE} (ha : PE X a (tE g W f)) (hb : PE X (.BoolOp .And (b :: rest) pos) (tE g W k)) : PE X (.BoolOp .And (a :: b :: rest) pos) (tE g W (sAnd f k)) :=
  PEimp (pe_and ha hb) fun σ H Q ⟨F, ρ, e, q⟩ => ⟨F, ρ, e, (Goes.bind q).imp fun a ρ' F' H' u q v A => by
    obtain ⟨fr, d⟩ := a
    cases fr with
    | true => exact q.elim
    | false =>
      dsimp only at q
      cases e1 : d.isB with
      | none => rw [e1] at q; exact q.elim
      | some b =>
        simp only [e1] at q
        obtain rfl := isB_eq e1
        refine ⟨b, by have := A.2; cases this; rfl, ?_⟩
        cases b with
        | true => rw [if_pos rfl] at q ⊢; exact ⟨F', ρ', A.1, q⟩
        | false => rw [if_neg (by decide)] at q ⊢; exact q F' H' (.refl _) _ ⟨A.1, .bl false⟩⟩
theorem jOr {a b : Expr} {rest : List Expr} {f k : SE} (ha : PE X a (tE g W f)) (hb : PE X (.BoolOp .Or (b :: rest) pos) (tE g W k)) : PE X (.BoolOp .Or (a :: b :: rest) pos) (tE g W (sOr f k)) :=
  PEimp (pe_or ha hb) fun σ H Q ⟨F, ρ, e, q⟩ => ⟨F, ρ, e, (Goes.bind q).imp fun a ρ' F' H' u q v A => by
    obtain ⟨fr, d⟩ := a
    cases fr with
    | true => exact q.elim
    | false =>
      dsimp only at q
      cases e1 : d.isB with
      | none => rw [e1] at q; exact q.elim
      | some b =>
        simp only [e1] at q
        obtain rfl := isB_eq e1
        refine ⟨b, by have := A.2; cases this; rfl, ?_⟩
        cases b with
        | true => rw [if_pos rfl] at q ⊢; exact q F' H' (.refl _) _ ⟨A.1, .bl true⟩
        | false => rw [if_neg (by decide)] at q ⊢; exact ⟨F', ρ', A.1, q⟩⟩
theorem jOne {op} {a : Expr} {f : SE} (h : PE X a (tE g W f)) : PE X (.BoolOp op [a] pos) (tE g W f) := pe_one h
theorem jNot {a : Expr} {f : SE} (ha : PE X a (tE g W f)) : PE X (.UnaryOp .Not a pos) (tE g W (sNot f)) :=
  PEimp (pe_not ha) fun σ H Q ⟨F, ρ, e, q⟩ => ⟨F, ρ, e, (Goes.bind q).imp fun a ρ' F' H' u q v A => by
    obtain ⟨fr, d⟩ := a
    cases fr with
    | true => exact q.elim
    | false =>
      dsimp only at q
      cases e1 : d.isB with
      | none => rw [e1] at q; exact q.elim
      | some b =>
        simp only [e1] at q
        obtain rfl := isB_eq e1
        exact ⟨b, by have := A.2; cases this; rfl, q F' H' (.refl _) _ ⟨A.1, .bl _⟩⟩⟩
theorem jIf {c a b : Expr} {fc : ST} {f k : SE} (hc : PT X c (tT g W fc)) (ha : PE X a (tE g W f)) (hb : PE X b (tE g W k)) : PE X (.IfExp c a b pos) (tE g W (sIf fc f k)) :=
  PEimp (pe_ifExp hc ha hb) fun σ H Q ⟨F, ρ, e, q⟩ => ⟨F, ρ, e, (Goes.bind q).imp fun b ρ' F' H' u q e' => by
    cases b with
    | true => rw [if_pos rfl] at q ⊢; exact ⟨F', ρ', e', q⟩
    | false => rw [if_neg (by decide)] at q ⊢; exact ⟨F', ρ', e', q⟩⟩
end
end J

namespace J
open PySem PySem.Spec PyProof.Rows L2

/-! ## locks -/
inductive Lk where
  | none
  | own (i : Nat)
  | io (i : Nat)
def lockG (g : Gh) (lk : Lk) (x : V) (d : D) : Gh :=
  match lk with
  | .none => g
  | .own i => { g with LK := (i, x, .lown d) :: g.LK }
  | .io i => { g with LK := (i, x, .lio d) :: g.LK }
def unlO (i : Nat) (ρ : Env) : Env := match ρ[i]? with
  | some (.lown d) => ρ.set i (.own d)
  | _ => ρ
def unlI (i : Nat) (ρ : Env) : Env := match ρ[i]? with
  | some (.lio d) => ρ.set i (.io d)
  | _ => ρ
def unlock (lk : Lk) (ρ : Env) : Env :=
  match lk with
  | .none => ρ
  | .own i => unlO i ρ
  | .io i => unlI i ρ
section
variable {g : Gh} {F H F' H' : Hp} {ρ : Env} {σ : L2.St} {i : Nat} {v x : V} {d : D}
theorem SlotOk.lk {j : Nat} {s : Option Slot} {w : Option (Option V)} {A : List Addr} {l : List (Nat × V × Slot)} (h : SlotOk g F H j s w A) : SlotOk { g with LK := l } F H j s w A := by
  cases s with
  | none => exact h
  | some s => cases s <;> exact h
theorem EnvOk.restate {s t : Slot} (E : EnvOk g F H ρ σ) (l : List (Nat × V × Slot)) (h : ρ[i]? = some s) (hs : ∀ fp, SlotOk g F H i (some s) σ[i]? fp → SlotOk { g with LK := l } F H i (some t) σ[i]? fp)
    (hh : ∀ e, (t = .own e ∨ t = .io e ∨ t = .lown e ∨ t = .lio e) → ∃ e', s = .own e' ∨ s = .io e' ∨ s = .lown e' ∨ s = .lio e')
    (hl : ∀ j x d, (j, x, d) ∈ l → σ[j]? = some (some x) ∧ Locked (ρ.set i t) j d) (hl2 : ∀ j d, Locked (ρ.set i t) j d → ∃ x, (j, x, d) ∈ l) : EnvOk { g with LK := l } F H (ρ.set i t) σ := by
  obtain ⟨fp, S⟩ := E.fps
  refine ⟨E.sub, E.low, E.new, E.kept, E.io, E.ioH0, hl, hl2, E.kpH, by simpa using E.len, fp, fun j => ?_, fun j k a n hj ha => ?_, S.kp⟩
  · by_cases z : j = i
    · subst z
      rw [List.getElem?_set_self (E.lt h)]
      exact hs _ (h ▸ S.ok j)
    · rw [setNe z]
      exact (S.ok j).lk
  · refine S.sep j k a n ?_ ha
    obtain ⟨e, he⟩ := hj
    by_cases z : j = i
    · subst z
      rw [List.getElem?_set_self (E.lt h)] at he
      obtain ⟨e', q⟩ := hh e (by rcases he with z | z | z | z <;> simp_all)
      exact ⟨e', by rw [h]; rcases q with q | q | q | q <;> simp [q]⟩
    · rw [setNe z] at he
      exact ⟨e, he⟩
theorem EnvOk.lockOwn (E : EnvOk g F H ρ σ) (h : ρ[i]? = some (.own d)) : ∃ x, σ[i]? = some (some x) ∧ EnvOk (lockG g (.own i) x d) F H (ρ.set i (.lown d)) σ := by
  obtain ⟨x, hx, _⟩ := E.peek (i := i) (d := d) (by unfold getP; rw [h])
  refine ⟨x, hx, E.restate _ h (fun fp q => q) (fun e z => by rcases z with z | z | z | z <;> (cases z; try exact ⟨d, .inl rfl⟩)) (fun j x' d' hj => ?_) fun j d' hj => ?_⟩
  rcases List.mem_cons.mp hj with e | hj
  · cases e
    exact ⟨hx, List.getElem?_set_self (E.lt h), rfl⟩
  · exact ⟨(E.lk j x' d' hj).1, by
      have q := E.lkSet (s := .lown d) (w := none) h rfl j x' d' hj
      exact q.2⟩
  · by_cases z : j = i
    · subst z
      obtain ⟨hj, _⟩ := hj
      rw [List.getElem?_set_self (E.lt h)] at hj
      cases hj
      exact ⟨x, List.mem_cons_self⟩
    · unfold Locked at hj
      rw [setNe z] at hj
      obtain ⟨y, hy⟩ := E.lk2 j d' hj
      exact ⟨y, List.mem_cons_of_mem _ hy⟩
theorem EnvOk.lockIo (E : EnvOk g F H ρ σ) (h : ρ[i]? = some (.io d)) : ∃ x, σ[i]? = some (some x) ∧ EnvOk (lockG g (.io i) x d) F H (ρ.set i (.lio d)) σ := by
  obtain ⟨x, hx, _⟩ := E.peek (i := i) (d := d) (by unfold getP; rw [h])
  refine ⟨x, hx, E.restate _ h (fun fp q => q) (fun e z => by rcases z with z | z | z | z <;> (cases z; try exact ⟨d, .inr (.inl rfl)⟩)) (fun j x' d' hj => ?_) fun j d' hj => ?_⟩
  rcases List.mem_cons.mp hj with e | hj
  · cases e
    exact ⟨hx, List.getElem?_set_self (E.lt h), rfl⟩
  · exact ⟨(E.lk j x' d' hj).1, by
      have q := E.lkSet (s := .lio d) (w := none) h rfl j x' d' hj
      exact q.2⟩
  · by_cases z : j = i
    · subst z
      obtain ⟨hj, _⟩ := hj
      rw [List.getElem?_set_self (E.lt h)] at hj
      cases hj
      exact ⟨x, List.mem_cons_self⟩
    · unfold Locked at hj
      rw [setNe z] at hj
      obtain ⟨y, hy⟩ := E.lk2 j d' hj
      exact ⟨y, List.mem_cons_of_mem _ hy⟩
theorem EnvOk.unlockAt {s t : Slot} {y : V} (E : EnvOk { g with LK := (i, y, s) :: g.LK } F H ρ σ) (hn : ∀ y e, (i, y, e) ∉ g.LK) (ht : t.open = true)
    (hs : ∀ fp, SlotOk g F H i (some s) σ[i]? fp → SlotOk g F H i (some t) σ[i]? fp)
    (hh : ∀ e, (t = .own e ∨ t = .io e ∨ t = .lown e ∨ t = .lio e) → ∃ e', s = .own e' ∨ s = .io e' ∨ s = .lown e' ∨ s = .lio e') : EnvOk g F H (ρ.set i t) σ := by
  obtain ⟨_, hi, so⟩ := E.lk i y s List.mem_cons_self
  refine E.restate g.LK hi (fun fp q => (hs fp (q.lk (l := g.LK))).lk) hh (fun j x d hj => ?_) fun j d hj => ?_
  · obtain ⟨e1, e2⟩ := E.lk j x d (List.mem_cons_of_mem _ hj)
    have nj : j ≠ i := fun z => by subst z; exact hn _ _ hj
    exact ⟨e1, by unfold Locked; rw [setNe nj]; exact e2⟩
  · have hj' := lockedSet ht hj
    obtain ⟨y', hy⟩ := E.lk2 j d hj'
    rcases List.mem_cons.mp hy with q | q
    · cases q
      obtain ⟨hj, hd⟩ := hj
      rw [List.getElem?_set_self (E.lt hi)] at hj
      cases hj
      rw [ht] at hd; cases hd
    · exact ⟨y', q⟩
def Fresh (g : Gh) (lk : Lk) : Prop := ∀ i, (lk = .own i ∨ lk = .io i) → ∀ y e, (i, y, e) ∉ g.LK
theorem EnvOk.unlock {lk : Lk} (E : EnvOk (lockG g lk x d) F H ρ σ) (hn : Fresh g lk) : EnvOk g F H (unlock lk ρ) σ := by
  cases lk with
  | none => exact E
  | own i =>
    have e := (E.lk i x (.lown d) List.mem_cons_self).2.1
    show EnvOk g F H (unlO i ρ) σ
    unfold unlO
    rw [e]
    exact EnvOk.unlockAt (t := .own d) E (hn i (.inl rfl)) rfl (fun fp q => q) fun e' z => ⟨d, .inr (.inr (.inl rfl))⟩
  | io i =>
    have e := (E.lk i x (.lio d) List.mem_cons_self).2.1
    show EnvOk g F H (unlI i ρ) σ
    unfold unlI
    rw [e]
    exact EnvOk.unlockAt (t := .io d) E (hn i (.inr rfl)) rfl (fun fp q => q) fun e' z => ⟨d, .inr (.inr (.inr rfl))⟩
theorem unlock_app {lk : Lk} {s : Slot} (h : s.open = true) : unlock lk (ρ ++ [s]) = unlock lk ρ ++ [s] := by
  cases lk with
  | none => rfl
  | own i =>
    show unlO i (ρ ++ [s]) = unlO i ρ ++ [s]
    unfold unlO
    by_cases z : i < ρ.length
    · rw [List.getElem?_append_left z]
      cases e : ρ[i]? with
      | none => rfl
      | some s' => cases s' <;> first | rfl | exact List.set_append_left _ _ z
    · have e0 : ρ[i]? = none := List.getElem?_eq_none (by omega)
      rw [e0]
      by_cases z2 : i = ρ.length
      · subst z2
        rw [List.getElem?_append_right (Nat.le_refl _), Nat.sub_self]
        cases s <;> first | rfl | cases h
      · rw [List.getElem?_eq_none (by simp; omega)]
  | io i =>
    show unlI i (ρ ++ [s]) = unlI i ρ ++ [s]
    unfold unlI
    by_cases z : i < ρ.length
    · rw [List.getElem?_append_left z]
      cases e : ρ[i]? with
      | none => rfl
      | some s' => cases s' <;> first | rfl | exact List.set_append_left _ _ z
    · have e0 : ρ[i]? = none := List.getElem?_eq_none (by omega)
      rw [e0]
      by_cases z2 : i = ρ.length
      · subst z2
        rw [List.getElem?_append_right (Nat.le_refl _), Nat.sub_self]
        cases s <;> first | rfl | cases h
      · rw [List.getElem?_eq_none (by simp; omega)]
theorem After.unlock {lk : Lk} {a : Bool × D} (A : After (lockG g lk x d) F H ρ σ v a) (hn : Fresh g lk) : After g F H (J.unlock lk ρ) σ v a := by
  obtain ⟨fr, d'⟩ := a
  cases fr with
  | true =>
    have A : EnvOk (lockG g lk x d) F H (ρ ++ [.own d']) (σ ++ [some v]) := A
    have q := A.unlock hn
    rw [unlock_app rfl] at q
    exact q
  | false =>
    refine ⟨A.1.unlock hn, ?_⟩
    have r := A.2
    cases lk <;> exact r
end

/-! ## what is walked -/
/-- J yields the items ds, as long as L stands -/
structure Walk (g : Gh) (J : It) (ds : List D) (L : Hp → Hp → Prop) : Prop where
  go : ∀ F H i, Same F H → L F H → i < ds.length → J.go i H
  stop : ∀ F H, Same F H → L F H → J.stop ds.length H
  yld : ∀ F H i d x H', Same F H → L F H → ds[i]? = some d → J.yld i H x H' → ∃ F', New F H F' H' ∧ Rep g.K g.mg F' x d
abbrev SI := Env → R (List D × Lk)
def tI (g : Gh) (W : WX) (it : SI) : TI := fun σ H Rr => ∃ F ρ, EnvOk g F H ρ σ ∧ Goes g W σ F (it ρ) (fun a ρ' F' H' => ∀ x d L J, Fresh g a.2 → EnvOk (lockG g a.2 x d) F' H' ρ' σ →
  (∀ F2 H2 ρ2 σ2 KP, EnvOk { lockG g a.2 x d with KP := KP } F2 H2 ρ2 σ2 → Same F' F2 → L F2 H2) → Walk g J a.1 L → Rr J H')

def Lst (g : Gh) (a : Addr) (ds : List D) : Hp → Hp → Prop := fun F H => ∃ vs, SqL g.K H a vs ∧ Reps g.K g.mg F vs ds
def Tpl (g : Gh) (a : Addr) (ds : List D) : Hp → Hp → Prop := fun F H => ∃ vs, SqT g.K H a vs ∧ Reps g.K g.mg F vs ds
section
variable {g : Gh} {F H F' H' : Hp} {ρ : Env} {σ : L2.St} {i : Nat} {v x : V} {d : D} {a : Addr} {ds : List D}
theorem walk_l : Walk g (Itl g.K a) ds (Lst g a ds) where
  go := fun F H i s ⟨vs, h, r⟩ hi => ⟨vs, vs[i]'(by rw [r.length]; exact hi), h, by simp⟩
  stop := fun F H s ⟨vs, h, r⟩ => ⟨vs, h, by rw [r.length]; exact Nat.le_refl _⟩
  yld := fun F H i d x H' s ⟨vs, h, r⟩ hd ⟨e, y⟩ => by
    subst e
    obtain ⟨v, hv, q⟩ := r.get hd
    have := y vs h
    rw [hv] at this
    cases this
    exact ⟨F, .refl s, q⟩
theorem walk_t : Walk g (Itt g.K a) ds (Tpl g a ds) where
  go := fun F H i s ⟨vs, h, r⟩ hi => ⟨vs, vs[i]'(by rw [r.length]; exact hi), h, by simp⟩
  stop := fun F H s ⟨vs, h, r⟩ => ⟨vs, h, by rw [r.length]; exact Nat.le_refl _⟩
  yld := fun F H i d x H' s ⟨vs, h, r⟩ hd ⟨e, y⟩ => by
    subst e
    obtain ⟨v, hv, q⟩ := r.get hd
    have := y vs h
    rw [hv] at this
    cases this
    exact ⟨F, .refl s, q⟩
def rng (lo : Int) (n : Nat) : List D := (List.range n).map fun (k : Nat) => D.int (lo + (k : Int))
theorem walk_r {lo : Int} {n : Nat} {L : Hp → Hp → Prop} : Walk g (Itr lo n) (rng lo n) L where
  go := fun F H i s _ hi => by
    rw [rng, List.length_map, List.length_range] at hi
    exact hi
  stop := fun F H s _ => by simp [rng, Itr]
  yld := fun F H i d x H' s _ hd ⟨e, y⟩ => by
    subst e y
    unfold rng at hd
    rw [List.getElem?_map] at hd
    obtain ⟨k, hk, rfl⟩ := Option.map_eq_some_iff.mp hd
    have hk' := List.getElem?_eq_some_iff.mp hk
    obtain ⟨h1, h2⟩ := hk'
    simp at h2
    subst h2
    exact ⟨F, .refl s, .int _⟩
def enumD : Nat → List D → List D
  | _, [] => []
  | k, d :: r => .tup [.int k, d] :: enumD (k + 1) r
theorem enumD_length (k : Nat) (ds : List D) : (enumD k ds).length = ds.length := by
  induction ds generalizing k with
  | nil => rfl
  | cons d r ih => simp [enumD, ih]
theorem enumD_get {k i : Nat} {ds : List D} {e : D} (h : (enumD k ds)[i]? = some e) : ∃ d, ds[i]? = some d ∧ e = .tup [.int ((k + i : Nat) : Int), d] := by
  induction ds generalizing k i with
  | nil => simp [enumD] at h
  | cons d r ih =>
    cases i with
    | zero => simp [enumD] at h; exact ⟨d, rfl, h.symm⟩
    | succ i =>
      simp [enumD] at h
      obtain ⟨d', h1, h2⟩ := ih h
      exact ⟨d', by simpa using h1, by rw [h2]; congr 3; omega⟩
theorem new_tup {vs : List V} {l : List D} (s : Same F H) (r : Reps g.K g.mg F vs l) {p : Addr} (h : H p = none) : New F H (upd F p (.tup vs)) (upd H p (.tup vs)) ∧ Rep g.K g.mg (upd F p (.tup vs)) (.ref p) (.tup l) := by
  have u := same_upd (o := .tup vs) (free_of s h)
  refine ⟨⟨u, same_upd h, fun b o e => ?_, fun b o e => ?_⟩, .tup (.inl (.inl upd_same)) (r.up u)⟩
  · by_cases z : b = p
    · subst z; rw [upd_same] at e; rw [upd_same]; exact e
    · rw [upd_ne z] at e; rw [upd_ne z]; exact s _ _ e
  · by_cases z : b = p
    · subst z; exact .inr h
    · rw [upd_ne z] at e; exact .inl e
theorem walk_e : Walk g (Ite g.K a) (enumD 0 ds) (Lst g a ds) where
  go := fun F H i s ⟨vs, h, r⟩ hi => by
    rw [enumD_length] at hi
    exact ⟨vs, vs[i]'(by rw [r.length]; exact hi), h, by simp⟩
  stop := fun F H s ⟨vs, h, r⟩ => ⟨vs, h, by rw [r.length, enumD_length]; exact Nat.le_refl _⟩
  yld := fun F H i d x H' s ⟨vs, h, r⟩ hd ⟨T, y, e1, hT, e2, hy⟩ => by
    subst e1 e2
    obtain ⟨d', h1, rfl⟩ := enumD_get hd
    obtain ⟨v, hv, q⟩ := r.get h1
    have := hy vs h
    rw [hv] at this
    cases this
    rw [Nat.zero_add]
    obtain ⟨n, r2⟩ := new_tup (g := g) (l := [.int ((i : Nat) : Int), d']) s (.cons (.int _) (.cons q .nil)) hT
    exact ⟨_, n, r2⟩
theorem walk_et : Walk g (IteT g.K a) (enumD 0 ds) (Tpl g a ds) where
  go := fun F H i s ⟨vs, h, r⟩ hi => by
    rw [enumD_length] at hi
    exact ⟨vs, vs[i]'(by rw [r.length]; exact hi), h, by simp⟩
  stop := fun F H s ⟨vs, h, r⟩ => ⟨vs, h, by rw [r.length, enumD_length]; exact Nat.le_refl _⟩
  yld := fun F H i d x H' s ⟨vs, h, r⟩ hd ⟨T, y, e1, hT, e2, hy⟩ => by
    subst e1 e2
    obtain ⟨d', h1, rfl⟩ := enumD_get hd
    obtain ⟨v, hv, q⟩ := r.get h1
    have := hy vs h
    rw [hv] at this
    cases this
    rw [Nat.zero_add]
    obtain ⟨n, r2⟩ := new_tup (g := g) (l := [.int ((i : Nat) : Int), d']) s (.cons (.int _) (.cons q .nil)) hT
    exact ⟨_, n, r2⟩
end

/-- a list or a tuple that is walked: a value, or a slot (an owned one is locked) -/
def seqOf (lk : Lk) : D → Option (Bool × List D × Lk)
  | .lst l => some (true, l, lk)
  | .tup l => some (false, l, lk)
  | _ => none
def okSeq (x : Option (Bool × List D × Lk)) (ρ : Env) : R (Bool × List D × Lk) := match x with
  | some a => .ok a ρ
  | none => .no
def itP (i : Nat) (ρ : Env) : R (Bool × List D × Lk) := match ρ[i]? with
  | some (.val d) => okSeq (seqOf .none d) ρ
  | some (.lent d) => okSeq (seqOf .none d) ρ
  | some (.lown d) => okSeq (seqOf .none d) ρ
  | some (.lio d) => okSeq (seqOf .none d) ρ
  | some (.own (.lst l)) => .ok (true, l, .own i) (ρ.set i (.lown (.lst l)))
  | some (.io (.lst l)) => .ok (true, l, .io i) (ρ.set i (.lio (.lst l)))
  | _ => .no
def itA : SArg → Env → R (Bool × List D × Lk)
  | .e f, ρ => (evArg (.e f) ρ).bind fun x ρ' => match x with
    | .d d => okSeq (seqOf .none d) ρ'
    | .p _ => .no
  | .p i, ρ => itP i ρ
/-- what itA leaves: where the list or tuple stands, and that it stands -/
structure Held (g : Gh) (σ : L2.St) (v : V) (a : Bool × List D × Lk) (ρ : Env) (F H : Hp) (x : V) (d : D) (p : Addr) : Prop where
  at' : v = .ref p
  fresh : Fresh g a.2.2
  env : EnvOk (lockG g a.2.2 x d) F H ρ σ
  keep : ∀ F2 H2 ρ2 σ2 KP, EnvOk { lockG g a.2.2 x d with KP := KP } F2 H2 ρ2 σ2 → Same F F2 → (if a.1 = true then Lst g p a.2.1 F2 H2 else Tpl g p a.2.1 F2 H2)
section
variable {g : Gh} {W : WX} {F H F' H' : Hp} {ρ : Env} {σ : L2.St} {i : Nat} {v x : V} {d : D} {a : Addr} {ds : List D}
theorem held_rep {fl : Bool} {l : List D} (E : EnvOk g F H ρ σ) (r : Rep g.K g.mg F v d) (e : seqOf .none d = some (fl, l, .none)) : ∃ p, Held g σ v (fl, l, .none) ρ F H .non .non p := by
  cases d with
  | lst l' =>
    cases e
    cases r with
    | lst h r => exact ⟨_, rfl, fun i z => (by rcases z with z | z <;> cases z), E, fun F2 H2 ρ2 σ2 KP E2 u => ⟨_, .inl (.inl (E2.sub _ _ (u _ _ h))), r.up u⟩⟩
  | tup l' =>
    cases e
    cases r with
    | tup h r => exact ⟨_, rfl, fun i z => (by rcases z with z | z <;> cases z), E, fun F2 H2 ρ2 σ2 KP E2 u => ⟨_, SqT.up (SqT.up h u) E2.sub, r.up u⟩⟩
  | _ => cases e
theorem seqOf_lk {lk : Lk} {a : Bool × List D × Lk} (e : seqOf lk d = some a) : a = (a.1, a.2.1, lk) := by
  cases d <;> first | (cases e; rfl) | cases e
/-- a locked slot -/
theorem held_locked {s : Slot} {fl : Bool} {l : List D} (E : EnvOk g F H ρ σ) (h : ρ[i]? = some s) (hs : s = .lent d ∨ s = .lown d ∨ s = .lio d) (hv : σ[i]? = some (some v)) (e : seqOf .none d = some (fl, l, .none)) : ∃ p, Held g σ v (fl, l, .none) ρ F H .non .non p := by
  have so : s.open = false := by rcases hs with rfl | rfl | rfl <;> rfl
  obtain ⟨y, hy⟩ := E.lk2 i s ⟨h, so⟩
  have ey : σ[i]? = some (some y) := (E.lk i y s hy).1
  rw [hv] at ey; cases ey
  -- what the lock tells at any state
  have tell : ∀ F2 H2 ρ2 σ2 KP, EnvOk { g with KP := KP } F2 H2 ρ2 σ2 → Peek g F2 H2 v d := fun F2 H2 ρ2 σ2 KP E2 => by
    obtain ⟨e1, e2, _⟩ := E2.lk i v s hy
    obtain ⟨x, hx, q⟩ := E2.peek (i := i) (d := d) (by unfold getP; rw [e2]; rcases hs with rfl | rfl | rfl <;> rfl)
    rw [e1] at hx; cases hx
    exact q
  have p0 := tell F H ρ σ g.KP E
  cases d with
  | lst l' =>
    cases e
    obtain ⟨p, vs, rfl, _, _⟩ := p0.lst E.sub
    refine ⟨p, rfl, fun i z => (by rcases z with z | z <;> cases z), E, fun F2 H2 ρ2 σ2 KP E2 u => ?_⟩
    obtain ⟨p', vs', e1, h', r'⟩ := (tell F2 H2 ρ2 σ2 KP E2).lst E2.sub
    cases e1
    exact ⟨vs', .inl (.inl h'), r'⟩
  | tup l' =>
    cases e
    obtain ⟨p, vs, rfl, _, _, _⟩ := p0.tup E.sub
    refine ⟨p, rfl, fun i z => (by rcases z with z | z <;> cases z), E, fun F2 H2 ρ2 σ2 KP E2 u => ?_⟩
    obtain ⟨p', vs', e1, _, h', r'⟩ := (tell F2 H2 ρ2 σ2 KP E2).tup E2.sub
    cases e1
    exact ⟨vs', h', r'⟩
  | _ => cases e
theorem notLocked (E : EnvOk g F H ρ σ) {s : Slot} (h : ρ[i]? = some s) (ho : s.open = true) : ∀ y e, (i, y, e) ∉ g.LK := fun y e z => by
  obtain ⟨_, e1, e2⟩ := E.lk i y e z
  rw [h] at e1; cases e1
  rw [ho] at e2; cases e2
theorem held_own {l : List D} (E : EnvOk g F H ρ σ) (h : ρ[i]? = some (.own (.lst l))) (hv : σ[i]? = some (some v)) : ∃ p, Held g σ v (true, l, .own i) (ρ.set i (.lown (.lst l))) F H v (.lst l) p := by
  obtain ⟨x, hx, E'⟩ := E.lockOwn h
  rw [hv] at hx; cases hx
  have tell : ∀ F2 H2 ρ2 σ2 KP, EnvOk { lockG g (.own i) v (.lst l) with KP := KP } F2 H2 ρ2 σ2 → Peek g F2 H2 v (.lst l) := fun F2 H2 ρ2 σ2 KP E2 => by
    obtain ⟨e1, e2, _⟩ := E2.lk i v (.lown (.lst l)) List.mem_cons_self
    obtain ⟨x, hx, q⟩ := E2.peek (i := i) (d := .lst l) (by unfold getP; rw [e2])
    rw [e1] at hx; cases hx
    exact q
  obtain ⟨p, vs, rfl, _, _⟩ := (tell F H _ σ g.KP E').lst E.sub
  refine ⟨p, rfl, fun j z => ?_, E', fun F2 H2 ρ2 σ2 KP E2 u => ?_⟩
  · rcases z with z | z
    · cases z; exact notLocked E h rfl
    · cases z
  · obtain ⟨p', vs', e1, h', r'⟩ := (tell F2 H2 ρ2 σ2 KP E2).lst E2.sub
    cases e1
    exact ⟨vs', .inl (.inl h'), r'⟩
theorem held_io {l : List D} (E : EnvOk g F H ρ σ) (h : ρ[i]? = some (.io (.lst l))) (hv : σ[i]? = some (some v)) : ∃ p, Held g σ v (true, l, .io i) (ρ.set i (.lio (.lst l))) F H v (.lst l) p := by
  obtain ⟨x, hx, E'⟩ := E.lockIo h
  rw [hv] at hx; cases hx
  have tell : ∀ F2 H2 ρ2 σ2 KP, EnvOk { lockG g (.io i) v (.lst l) with KP := KP } F2 H2 ρ2 σ2 → Peek g F2 H2 v (.lst l) := fun F2 H2 ρ2 σ2 KP E2 => by
    obtain ⟨e1, e2, _⟩ := E2.lk i v (.lio (.lst l)) List.mem_cons_self
    obtain ⟨x, hx, q⟩ := E2.peek (i := i) (d := .lst l) (by unfold getP; rw [e2])
    rw [e1] at hx; cases hx
    exact q
  obtain ⟨p, vs, rfl, _, _⟩ := (tell F H _ σ g.KP E').lst E.sub
  refine ⟨p, rfl, fun j z => ?_, E', fun F2 H2 ρ2 σ2 KP E2 u => ?_⟩
  · rcases z with z | z
    · cases z
    · cases z; exact notLocked E h rfl
  · obtain ⟨p', vs', e1, h', r'⟩ := (tell F2 H2 ρ2 σ2 KP E2).lst E2.sub
    cases e1
    exact ⟨vs', .inl (.inl h'), r'⟩

theorem itA_run {a : SArg} {Q : VK} {P : Bool × List D × Lk → Env → Hp → Hp → Prop} (E : EnvOk g F H ρ σ) (h : Goes g W σ F (itA a ρ) P) (k : ∀ v b ρ' F' H' x d p, Held g σ v b ρ' F' H' x d p → P b ρ' F' H' → Q v H') : tArg g W a σ H Q := by
  cases a with
  | e f =>
    refine arg_run E ((Goes.bind h).imp fun x ρ' F' H' u q E' v hv => ?_)
    cases x with
    | p i => exact q.elim
    | d d =>
      have q : Goes g W σ F' (okSeq (seqOf .none d) ρ') P := q
      cases e : seqOf .none d with
      | none => rw [e] at q; exact q.elim
      | some b =>
        rw [e] at q
        have q : Goes g W σ F' (R.ok b ρ') P := q
        have eb := seqOf_lk e
        rw [eb] at e q
        obtain ⟨p, hp⟩ := held_rep E' hv e
        exact k v _ ρ' F' H' _ _ p hp (q F' H' (.refl _))
  | p i =>
    have h : Goes g W σ F (itP i ρ) P := h
    unfold itP at h
    cases hi : ρ[i]? with
    | none => rw [hi] at h; exact h.elim
    | some s =>
      rw [hi] at h
      have lck : ∀ d, (s = .lent d ∨ s = .lown d ∨ s = .lio d) → Goes g W σ F (okSeq (seqOf .none d) ρ) P → tVar i σ H Q := fun d hs h => by
        cases e : seqOf .none d with
        | none => rw [e] at h; exact h.elim
        | some b =>
          rw [e] at h
          have h : Goes g W σ F (R.ok b ρ) P := h
          have eb := seqOf_lk e
          rw [eb] at e h
          obtain ⟨v, hv, _⟩ := E.peek (i := i) (d := d) (by unfold getP; rw [hi]; rcases hs with rfl | rfl | rfl <;> rfl)
          obtain ⟨p, hp⟩ := held_locked E hi hs hv e
          exact ⟨v, hv, k v _ ρ F H _ _ p hp (h F H (.refl _))⟩
      cases s with
      | no => exact h.elim
      | val d =>
        dsimp only at h
        cases e : seqOf .none d with
        | none => rw [e] at h; exact h.elim
        | some b =>
          rw [e] at h
          have h : Goes g W σ F (R.ok b ρ) P := h
          have eb := seqOf_lk e
          rw [eb] at e h
          obtain ⟨fp, S⟩ := E.fps
          have q := S.ok i
          rw [hi] at q
          obtain ⟨_, v, hv, r⟩ := q
          obtain ⟨p, hp⟩ := held_rep E r e
          exact ⟨v, hv, k v _ ρ F H _ _ p hp (h F H (.refl _))⟩
      | lent d => exact lck d (.inl rfl) h
      | lown d => exact lck d (.inr (.inl rfl)) h
      | lio d => exact lck d (.inr (.inr rfl)) h
      | own d =>
        cases d with
        | lst l =>
          obtain ⟨v, hv, _⟩ := E.peek (i := i) (d := .lst l) (by unfold getP; rw [hi])
          obtain ⟨p, hp⟩ := held_own E hi hv
          exact ⟨v, hv, k v _ _ F H _ _ p hp (h F H (.refl _))⟩
        | _ => exact h.elim
      | io d =>
        cases d with
        | lst l =>
          obtain ⟨v, hv, _⟩ := E.peek (i := i) (d := .lst l) (by unfold getP; rw [hi])
          obtain ⟨p, hp⟩ := held_io E hi hv
          exact ⟨v, hv, k v _ _ F H _ _ p hp (h F H (.refl _))⟩
        | _ => exact h.elim
end

/-! ## the things that are walked -/
def itSeq (a : SArg) : SI := fun ρ => (itA a ρ).bind fun b ρ' => .ok (b.2.1, b.2.2) ρ'
def itEnum (a : SArg) : SI := fun ρ => (itA a ρ).bind fun b ρ' => .ok (enumD 0 b.2.1, b.2.2) ρ'
def itRng1 (a : SArg) : SI := fun ρ => (sArgs [a] ρ).bind fun ds ρ' => match ds with
  | [.int j] => if -(2 ^ 62) ≤ j ∧ j < 2 ^ 62 then .ok (rng 0 j.toNat, .none) ρ' else .no
  | _ => .no
def itRng2 (a b : SArg) : SI := fun ρ => (sArgs [a, b] ρ).bind fun ds ρ' => match ds with
  | [.int i, .int j] => if (-(2 ^ 62) ≤ i ∧ i < 2 ^ 62) ∧ (-(2 ^ 62) ≤ j ∧ j < 2 ^ 62) then .ok (rng i (j - i).toNat, .none) ρ' else .no
  | _ => .no
section
variable {X : Cx} {g : Gh} {W : WX} {tg : Expr} {pos p tpos : Pos}
/-- a list or a tuple -/
def iSeq (K : PySem.W.Frag) (tl : TE) : TI := fun σ H Rr => tl σ H fun x H1 => ∃ a, x = .ref a ∧ (((∃ xs, SqL K H1 a xs) ∧ Rr (Itl K a) H1) ∨ ((∃ xs, SqT K H1 a xs) ∧ Rr (Itt K a) H1))
theorem pi_seq {l : Expr} {tl : TE} (hl : PE X l tl) : PI X tg l (iSeq X.K tl) := by
  refine ⟨fun pins s σ H Rr I h => ?_⟩
  refine thn (hl.run pins s σ H _ I h) fun v s1 hv => ?_
  obtain ⟨x, H1, I1, r1, a, e, q⟩ := hv
  subst e
  cases r1
  have fpo : ∀ b ∈ [s1.heap.objs.size], FpOk X pins H1 b := fun b hb => by
    obtain rfl : b = s1.heap.objs.size := by simpa using hb
    exact I1.fpOk (Nat.le_refl _) (I1.hok.fresh (Nat.le_refl _))
  rcases q with ⟨⟨xs, hq⟩, q⟩ | ⟨⟨xs, hq⟩, q⟩
  · obtain ⟨its, rv, pl, hz⟩ := I1.list hq
    exact wpAny_pyIter_list pl.isList ⟨_, [s1.heap.objs.size], _, _, H1, rfl, I1.kept (t' := s1.toks) fun b o e => Heap.get?_push_of_some _ e,
      turn_list a _, ⟨_, Heap.get?_push_size _ rfl, rfl, rfl⟩, fpo, q⟩
  · obtain ⟨its, rv, pl, hz⟩ := I1.tuple hq
    exact wpAny_pyIter_tuple (show s1.heap.IsTuple a its.toArray from pl) ⟨_, [s1.heap.objs.size], _, _, H1, rfl, I1.kept (t' := s1.toks) fun b o e => Heap.get?_push_of_some _ e,
      turn_tuple a _, ⟨_, Heap.get?_push_size _ rfl, rfl, rfl⟩, fpo, q⟩
theorem PIimp {e : Expr} {t t' : TI} (h : PI X tg e t) (i : ∀ σ H Q, t' σ H Q → t σ H Q) : PI X tg e t' := ⟨fun pins s σ H Q I q => h.run pins s σ H Q I (i σ H Q q)⟩
theorem Held.base {σ : L2.St} {v x : V} {a : Bool × List D × Lk} {ρ : Env} {F H : Hp} {d : D} {q : Addr} (h : Held g σ v a ρ F H x d q) : if a.1 = true then Lst g q a.2.1 F H else Tpl g q a.2.1 F H := by
  refine h.keep F H ρ σ (lockG g a.2.2 x d).KP ?_ (.refl _)
  exact h.env
theorem Walk.of {L L' : Hp → Hp → Prop} {J : It} {ds : List D} (w : Walk g J ds L) (i : ∀ F H, L' F H → L F H) : Walk g J ds L' :=
  ⟨fun F H j s l => w.go F H j s (i _ _ l), fun F H s l => w.stop F H s (i _ _ l), fun F H j d x H' s l => w.yld F H j d x H' s (i _ _ l)⟩
theorem iSeqJ {e : Expr} {a : SArg} (he : PE X e (tArg g W a)) (hK : X.K = g.K) : PI X tg e (tI g W (itSeq a)) := by
  refine PIimp (pi_seq he) fun σ H Rr h => ?_
  obtain ⟨F, ρ, E, h⟩ := h
  refine itA_run E (Goes.bind h) fun v b ρ' F' H' x d p hd q => ⟨p, hd.at', ?_⟩
  have q := q F' H' (.refl _)
  have base := hd.base
  obtain ⟨fl, l, lk⟩ := b
  rw [hK]
  cases fl with
  | true =>
    rw [if_pos rfl] at base
    exact .inl ⟨⟨_, base.choose_spec.1⟩, q x d (Lst g p l) _ hd.fresh hd.env (fun F2 H2 ρ2 σ2 KP E2 u => by have := hd.keep F2 H2 ρ2 σ2 KP E2 u; rw [if_pos rfl] at this; exact this) walk_l⟩
  | false =>
    rw [if_neg Bool.false_ne_true] at base
    exact .inr ⟨⟨_, base.choose_spec.1⟩, q x d (Tpl g p l) _ hd.fresh hd.env (fun F2 H2 ρ2 σ2 KP E2 u => by have := hd.keep F2 H2 ρ2 σ2 KP E2 u; rw [if_neg Bool.false_ne_true] at this; exact this) walk_t⟩
theorem iEnumJ {e : Expr} {a : SArg} {elts : List Expr} {kk : Nat} (hg : Gl X "enumerate") (hm : X.mg "enumerate" = none) (he : PA X [e] (tArgs g W [a])) (hK : X.K = g.K) (hs : starEach [e] X.env = [(false, eval e X.env)] := by rfl) : PI X (.Tuple elts kk tpos) (.Call (.Name "enumerate" p) [e] [] pos) (tI g W (itEnum a)) := by
  refine PIimp (pi_enumA hg hm he hs) fun σ H Rr h => ?_
  obtain ⟨F, ρ, E, h⟩ := h
  show tArg g W a σ H _
  refine itA_run E (Goes.bind h) fun v b ρ' F' H' x d p hd q => ?_
  obtain ⟨fl, l, lk⟩ := b
  have q := q F' H' (.refl _)
  have base := hd.base
  show ∃ a, _
  rw [hd.at', hK]
  refine ⟨p, rfl, ?_⟩
  cases fl with
  | true =>
    rw [if_pos rfl] at base
    exact .inl ⟨_, base.choose_spec.1, q x d (Lst g p l) _ hd.fresh hd.env (fun F2 H2 ρ2 σ2 KP E2 u => by have := hd.keep F2 H2 ρ2 σ2 KP E2 u; rw [if_pos rfl] at this; exact this) walk_e⟩
  | false =>
    rw [if_neg Bool.false_ne_true] at base
    exact .inr ⟨_, base.choose_spec.1, q x d (Tpl g p l) _ hd.fresh hd.env (fun F2 H2 ρ2 σ2 KP E2 u => by have := hd.keep F2 H2 ρ2 σ2 KP E2 u; rw [if_neg Bool.false_ne_true] at this; exact this) walk_et⟩
theorem args_int {l : List SArg} {σ : L2.St} {H : Hp} {Q : List V → Hp → Prop} {P : List D → Env → Hp → Hp → Prop} {F : Hp} {ρ : Env} (E : EnvOk g F H ρ σ) (h : Goes g W σ F (sArgs l ρ) P) (k : ∀ vs ds ρ' F' H', EnvOk g F' H' ρ' σ → Peeks g F' H' vs ds → P ds ρ' F' H' → Q vs H') : tArgs g W l σ H Q := by
  refine args_run E ((Goes.bind h).imp fun xs ρ' F' H' u q E' vs hvs => ?_)
  cases e : derefs ρ' xs with
  | none => rw [e] at q; exact q.elim
  | some ds => rw [e] at q; exact k vs ds ρ' F' H' E' (derefs_peek E' hvs e) (q F' H' (.refl _))
theorem noFresh : Fresh g .none := fun i z => by rcases z with z | z <;> cases z
theorem iRng1J {e : Expr} {a : SArg} (hg : Gl X "range") (hm : X.mg "range" = none) (he : PA X [e] (tArgs g W [a])) (hs : starEach [e] X.env = [(false, eval e X.env)] := by rfl) : PI X tg (.Call (.Name "range" p) [e] [] pos) (tI g W (itRng1 a)) := by
  refine PIimp (pi_range1 hg hm he hs) fun σ H Rr h => ?_
  obtain ⟨F, ρ, E, h⟩ := h
  refine args_int E (Goes.bind h) fun vs ds ρ' F' H' E' pk q => ?_
  split at q
  · rename_i j
    by_cases z : -(2 ^ 62) ≤ j ∧ j < 2 ^ 62
    · rw [if_pos z] at q
      cases pk with
      | cons p1 t =>
        cases t
        rw [p1.int]
        exact ⟨j, rfl, z.1, z.2, q F' H' (.refl _) .non .non (fun _ _ => True) _ noFresh E' (fun _ _ _ _ _ _ _ => trivial) walk_r⟩
    · rw [if_neg z] at q; exact q.elim
  · exact q.elim
theorem iRng2J {e e2 : Expr} {a b : SArg} (hg : Gl X "range") (hm : X.mg "range" = none) (he : PA X [e, e2] (tArgs g W [a, b])) (hs : starEach [e, e2] X.env = [(false, eval e X.env), (false, eval e2 X.env)] := by rfl) (hs2 : starEach [e2] X.env = [(false, eval e2 X.env)] := by rfl) : PI X tg (.Call (.Name "range" p) [e, e2] [] pos) (tI g W (itRng2 a b)) := by
  refine PIimp (pi_range2 hg hm he hs hs2) fun σ H Rr h => ?_
  obtain ⟨F, ρ, E, h⟩ := h
  refine args_int E (Goes.bind h) fun vs ds ρ' F' H' E' pk q => ?_
  split at q
  · rename_i i j
    by_cases z : (-(2 ^ 62) ≤ i ∧ i < 2 ^ 62) ∧ (-(2 ^ 62) ≤ j ∧ j < 2 ^ 62)
    · rw [if_pos z] at q
      cases pk with
      | cons p1 t =>
        cases t with
        | cons p2 t =>
          cases t
          rw [p1.int, p2.int]
          exact ⟨i, j, rfl, ⟨z.1.1, z.1.2, z.2.1, z.2.2⟩, q F' H' (.refl _) .non .non (fun _ _ => True) _ noFresh E' (fun _ _ _ _ _ _ _ => trivial) walk_r⟩
    · rw [if_neg z] at q; exact q.elim
  · exact q.elim
end
end J

namespace J
open PySem PySem.Spec PyProof.Rows L2

/-! ## targets -/
abbrev TgS := D → Env → Option Env
/-- gr stores as st says; ix: the slots it stores to -/
def TgOk (K : PySem.W.Frag) (gr : TG) (st : TgS) (ix : List Nat) : Prop := ∀ (g : Gh) (F H : Hp) (ρ ρ' : Env) (σ : L2.St) (v : V) (d : D) (Q : L2.St → Hp → Prop), g.K = K → EnvOk g F H ρ σ → Rep g.K g.mg F v d → st d ρ = some ρ' →
  (∀ σ', EnvOk g F H ρ' σ' → (∀ j, j ∉ ix → σ'[j]? = σ[j]?) → σ'.length = σ.length → Q σ' H) → gr v σ H Q
def stN (i : Nat) : TgS := fun d ρ => stS i (false, d) ρ
theorem tgN {K : PySem.W.Frag} {i : Nat} : TgOk K (gName i) (stN i) [i] := fun g F H ρ ρ' σ v d Q _ E r h k =>
  k _ (After.store (a := (false, d)) ⟨E, r⟩ h) (fun j hj => setNe (by simpa using hj)) (by simp)
def TgsOk (K : PySem.W.Frag) (gr : TGs) (st : List D → Env → Option Env) (ix : List Nat) : Prop := ∀ (g : Gh) (F H : Hp) (ρ ρ' : Env) (σ : L2.St) (vs : List V) (ds : List D) (Q : L2.St → Hp → Prop), g.K = K → EnvOk g F H ρ σ → Reps g.K g.mg F vs ds → st ds ρ = some ρ' →
  (∀ σ', EnvOk g F H ρ' σ' → (∀ j, j ∉ ix → σ'[j]? = σ[j]?) → σ'.length = σ.length → Q σ' H) → gr vs σ H Q
def stNil : List D → Env → Option Env
  | [], ρ => some ρ
  | _, _ => none
def stCons (a : TgS) (b : List D → Env → Option Env) : List D → Env → Option Env
  | d :: r, ρ => (a d ρ).bind fun ρ' => b r ρ'
  | _, _ => none
theorem tgNil {K : PySem.W.Frag} : TgsOk K gNil stNil [] := fun g F H ρ ρ' σ vs ds Q _ E r h k => by
  cases r with
  | nil => cases h; exact ⟨rfl, k σ E (fun _ _ => rfl) rfl⟩
  | cons _ _ => cases h
theorem tgCons {K : PySem.W.Frag} {gr : TG} {st : TgS} {ix : List Nat} {gs : TGs} {ss : List D → Env → Option Env} {is : List Nat} (h1 : TgOk K gr st ix) (h2 : TgsOk K gs ss is) : TgsOk K (gCons gr gs) (stCons st ss) (ix ++ is) := fun g F H ρ ρ' σ vs ds Q hK E r h k => by
  cases r with
  | nil => cases h
  | cons r t =>
    rename_i v d vs ds
    have h : (st d ρ).bind (fun ρ' => ss ds ρ') = some ρ' := h
    cases e : st d ρ with
    | none => rw [e] at h; cases h
    | some ρ1 =>
      rw [e] at h
      refine ⟨v, vs, rfl, h1 g F H ρ ρ1 σ v d _ hK E r e fun σ1 E1 o1 l1 => h2 g F H ρ1 ρ' σ1 vs ds _ hK E1 t h fun σ2 E2 o2 l2 => k σ2 E2 (fun j hj => ?_) (l2.trans l1)⟩
      rw [List.mem_append] at hj
      rw [o2 j fun z => hj (.inr z), o1 j fun z => hj (.inl z)]
def stT (st : List D → Env → Option Env) : TgS
  | .tup l, ρ => st l ρ
  | _, _ => none
theorem tgT {K : PySem.W.Frag} {n : Nat} {gs : TGs} {ss : List D → Env → Option Env} {is : List Nat} (h : TgsOk K gs ss is) (hn : ∀ l ρ ρ', ss l ρ = some ρ' → l.length = n) : TgOk K (gTup K n gs) (stT ss) is := fun g F H ρ ρ' σ v d Q hK E r e k => by
  cases r with
  | tup hs rs =>
    have e : ss _ ρ = some ρ' := e
    exact ⟨_, _, rfl, by rw [← hK]; exact SqT.up hs E.sub, rs.length.trans (hn _ _ _ e), h g F H ρ ρ' σ _ _ Q hK E rs e k⟩
  | _ => cases e
theorem lenNil : ∀ l ρ ρ', stNil l ρ = some ρ' → l.length = 0 := fun l ρ ρ' h => by cases l <;> first | rfl | cases h
theorem lenCons {st : TgS} {ss : List D → Env → Option Env} {n : Nat} (h : ∀ l ρ ρ', ss l ρ = some ρ' → l.length = n) : ∀ l ρ ρ', stCons st ss l ρ = some ρ' → l.length = n + 1 := fun l ρ ρ' e => by
  cases l with
  | nil => cases e
  | cons d r =>
    have e : (st d ρ).bind (fun ρ' => ss r ρ') = some ρ' := e
    cases e1 : st d ρ with
    | none => rw [e1] at e; cases e
    | some ρ1 => rw [e1] at e; rw [List.length_cons, h _ _ _ e]

/-! ## for -/
def loopF (st : TgS) (body : SS) : List D → Env → RS
  | [], ρ => .nx ρ
  | d :: r, ρ => match st d ρ with
    | none => .no
    | some ρ1 => (match body ρ1 with
      | .nx ρ2 => loopF st body r ρ2
      | .ct ρ2 => loopF st body r ρ2
      | .bk ρ2 => .nx ρ2
      | .rt a ρ2 => .rt a ρ2
      | .exc x ρ2 => .exc x ρ2
      | .no => .no)
def unlS (lk : Lk) : RS → RS
  | .nx ρ => .nx (unlock lk ρ)
  | .rt a ρ => .rt a (unlock lk ρ)
  | .exc x ρ => .exc x (unlock lk ρ)
  | _ => .no
def bFor (it : SI) (st : TgS) (body : SS) : SS := fun ρ => thenS (it ρ) fun a ρ' => unlS a.2 (loopF st body a.1 ρ')
theorem ExcV.lock {g : Gh} {lk : Lk} {x : V} {d : D} {F : Hp} {cls : Value} {dd : Option Addr} {e : D} (h : ExcV (lockG g lk x d) F cls dd e) : ExcV g F cls dd e := by
  cases e <;> first | exact h | (cases lk <;> exact h)
theorem GoesS.unl {g : Gh} {W : WX} {lk : Lk} {x : V} {d : D} {F : Hp} {r : RS} {E : Ends} (h : GoesS g W F (unlS lk r) E) (hn : Fresh g lk) : GoesS (lockG g lk x d) W F r E := by
  cases r with
  | nx ρ' => exact fun σ' F' H' e s => h σ' F' H' (e.unlock hn) s
  | rt a ρ' => exact fun v σ' F' H' e s => h v σ' F' H' (e.unlock hn) s
  | exc y ρ' => exact fun cls dd σ' F' H' e s q => h cls dd σ' F' H' (e.unlock hn) s q.lock
  | bk ρ' => exact h.elim
  | ct ρ' => exact h.elim
  | no => exact h.elim
theorem Gok.lock {X : Cx} {g : Gh} {lk : Lk} {x : V} {d : D} (G : Gok X g) : Gok X (lockG g lk x d) := by cases lk <;> exact ⟨G.K, G.mg⟩
theorem lockG_K {g : Gh} {lk : Lk} {x : V} {d : D} : (lockG g lk x d).K = g.K := by cases lk <;> rfl
theorem lockG_mg {g : Gh} {lk : Lk} {x : V} {d : D} : (lockG g lk x d).mg = g.mg := by cases lk <;> rfl
section
variable {X : Cx} {g : Gh} {W : WX} {pos : Pos}
/-- a body for any ghost -/
def tSx (X : Cx) (W : WX) (f : SS) : TS := fun E σ H => ∃ g, Gok X g ∧ tS g W f E σ H
theorem ksx {st : List Stmt} {f : SS} (h : ∀ g, Gok X g → PSs X st (tS g W f)) : PSs X st (tSx X W f) := ⟨fun pins s σ H E I ⟨g, G, q⟩ => (h g G).run pins s σ H E I q⟩
theorem kFor {tg iter : Expr} {body : List Stmt} {it : SI} {gr : TG} {st : TgS} {ix : List Nat} {fb : SS} (G : Gok X g) (hp : PassesOwn (model X.prog X.w) X.A X.env X.xe) (hc : X.calm = true) (hi : PI X tg iter (tI g W it)) (hg : PG X tg gr) (ht : TgOk X.K gr st ix)
    (hb : ∀ g, Gok X g → PSs X body (tS g W fb)) (hs : ∀ x, foldedSetIterable iter X.env x = pure x := by intro _; rfl) : PS X (.For tg iter body [] pos) (tS g W (bFor it st fb)) := by
  refine PSimp (ps_for hp hc hi hg (ksx hb) hs) fun E σ H ⟨F, ρ, e, q⟩ => ⟨F, ρ, e, (GoesS.expr q).imp fun a ρ1 F1 H1 u q x d L J hn E1 keep wk => ?_⟩
  obtain ⟨ds, lk⟩ := a
  dsimp only at q hn E1 keep wk ⊢
  have q := q.unl (x := x) (d := d) hn
  have L0 : ∀ F2 H2 ρ2 σ2, EnvOk (lockG g lk x d) F2 H2 ρ2 σ2 → Same F1 F2 → L F2 H2 := fun F2 H2 ρ2 σ2 E2 u2 => keep F2 H2 ρ2 σ2 _ E2 u2
  refine ⟨fun i m σ2 H2 => ∃ F2 ρ2, EnvOk (lockG g lk x d) F2 H2 ρ2 σ2 ∧ Same F1 F2 ∧ i ≤ ds.length ∧ m = ds.length - i ∧ GoesS (lockG g lk x d) W F2 (loopF st fb (ds.drop i) ρ2) E, ⟨ds.length, F1, ρ1, E1, .refl _, Nat.zero_le _, rfl, q⟩, ?_⟩
  rintro i m σ2 H2 ⟨F2, ρ2, E2, u2, hi2, rfl, q2⟩
  have l2 := L0 F2 H2 ρ2 σ2 E2 u2
  by_cases hlt : i < ds.length
  · refine .inr ⟨wk.go F2 H2 i E2.sub l2 hlt, fun σ3 H3 => ∃ F3 ρ3, EnvOk (lockG g lk x d) F3 H3 ρ3 σ3 ∧ Same F1 F3 ∧ GoesS (lockG g lk x d) W F3 (loopF st fb (ds.drop (i + 1)) ρ3) E, ?_, ?_⟩
    · rintro σ3 H3 ⟨F3, ρ3, E3, u3, q3⟩
      exact ⟨ds.length - (i + 1), by omega, F3, ρ3, E3, u3, hlt, rfl, q3⟩
    · intro y H3 hy
      have hd : ds[i]? = some ds[i] := List.getElem?_eq_getElem hlt
      obtain ⟨F3, n3, r3⟩ := wk.yld F2 H2 i ds[i] y H3 E2.sub l2 hd hy
      have E3 := E2.ext n3
      rw [List.drop_eq_getElem_cons hlt] at q2
      have q2 := q2.up n3.uF
      unfold loopF at q2
      cases e1 : st ds[i] ρ2 with
      | none => rw [e1] at q2; exact q2.elim
      | some ρ3 =>
        rw [e1] at q2
        refine ht (lockG g lk x d) F3 H3 ρ2 ρ3 σ2 y ds[i] _ (by rw [lockG_K]; exact G.K.symm) E3 (by rw [lockG_K, lockG_mg]; exact r3) e1 fun σ3 E4 _ _ => ⟨lockG g lk x d, G.lock, F3, ρ3, E4, ?_⟩
        dsimp only at q2
        cases e2 : fb ρ3 with
        | nx ρ4 => rw [e2] at q2; exact fun σ4 F4 H4 E5 u4 => ⟨F4, ρ4, E5, (u2.trans n3.uF).trans u4, GoesS.up (r := loopF st fb (ds.drop (i + 1)) ρ4) q2 u4⟩
        | ct ρ4 => rw [e2] at q2; exact fun σ4 F4 H4 E5 u4 => ⟨F4, ρ4, E5, (u2.trans n3.uF).trans u4, GoesS.up (r := loopF st fb (ds.drop (i + 1)) ρ4) q2 u4⟩
        | bk ρ4 => rw [e2] at q2; exact q2
        | rt b ρ4 => rw [e2] at q2; exact q2
        | exc b ρ4 => rw [e2] at q2; exact q2
        | no => rw [e2] at q2; exact q2
  · have e : i = ds.length := by omega
    subst e
    refine .inl ⟨wk.stop F2 H2 E2.sub l2, ?_⟩
    rw [List.drop_length] at q2
    exact q2 σ2 F2 H2 E2 (.refl _)

/-! ## while -/
def loopW (c : ST) (body : SS) : Nat → Env → RS
  | 0, _ => .no
  | n + 1, ρ => thenS (c ρ) fun b ρ1 => if b = true then (match body ρ1 with
    | .nx ρ2 => loopW c body n ρ2
    | .ct ρ2 => loopW c body n ρ2
    | .bk ρ2 => .nx ρ2
    | .rt a ρ2 => .rt a ρ2
    | .exc x ρ2 => .exc x ρ2
    | .no => .no) else .nx ρ1
theorem kWhile {c : Expr} {body : List Stmt} {fc : ST} {fb : SS} (n : Nat) (hp : PassesOwn (model X.prog X.w) X.A X.env X.xe) (hc : PT X c (tT g W fc)) (hb : PSs X body (tS g W fb)) : PS X (.While c body [] pos) (tS g W (loopW fc fb n)) := by
  refine PSimp (ps_while hp hc hb) fun E σ H ⟨F, ρ, e, q⟩ => ?_
  refine ⟨fun m σ2 H2 => ∃ F2 ρ2, EnvOk g F2 H2 ρ2 σ2 ∧ GoesS g W F2 (loopW fc fb m ρ2) E, ⟨n, F, ρ, e, q⟩, ?_⟩
  rintro m σ2 H2 ⟨F2, ρ2, E2, q2⟩
  cases m with
  | zero => exact q2.elim
  | succ m =>
    refine ⟨F2, ρ2, E2, (GoesS.expr q2).imp fun b ρ3 F3 H3 u3 q3 E3 => ?_⟩
    cases b with
    | false => rw [if_neg Bool.false_ne_true] at q3 ⊢; exact q3 σ2 F3 H3 E3 (.refl _)
    | true =>
      rw [if_pos rfl] at q3 ⊢
      refine ⟨fun σ4 H4 => ∃ F4 ρ4, EnvOk g F4 H4 ρ4 σ4 ∧ GoesS g W F4 (loopW fc fb m ρ4) E, fun σ4 H4 h4 => ⟨m, Nat.lt_succ_self _, h4⟩, F3, ρ3, E3, ?_⟩
      cases e2 : fb ρ3 with
      | nx ρ4 => rw [e2] at q3; exact fun σ4 F4 H4 E5 u4 => ⟨F4, ρ4, E5, GoesS.up (r := loopW fc fb m ρ4) q3 u4⟩
      | ct ρ4 => rw [e2] at q3; exact fun σ4 F4 H4 E5 u4 => ⟨F4, ρ4, E5, GoesS.up (r := loopW fc fb m ρ4) q3 u4⟩
      | bk ρ4 => rw [e2] at q3; exact q3
      | rt b ρ4 => rw [e2] at q3; exact q3
      | exc b ρ4 => rw [e2] at q3; exact q3
      | no => rw [e2] at q3; exact q3
end
end J

namespace J
open PySem PySem.Spec PyProof.Rows L2

def blank (ρ : Env) : List Nat → Env
  | [] => ρ
  | i :: r => (blank ρ r).set i .no
def restore (ρ0 : Env) : Env → List Nat → Env
  | ρ, [] => ρ
  | ρ, i :: r => restore ρ0 (ρ.set i (match ρ0[i]? with
    | some (.val d) => .val d
    | _ => .no)) r
def opens (ρ : Env) (vs : List Nat) : Bool := vs.all fun i => match ρ[i]? with
  | some s => s.open
  | none => false
def plains (ρ : Env) (vs : List Nat) : Bool := vs.all fun i => match ρ[i]? with
  | some .no => true
  | some (.val _) => true
  | _ => false
section
variable {g : Gh} {F H F' H' : Hp} {ρ ρ0 : Env} {σ : L2.St} {i : Nat} {v x : V} {d : D} {a : Addr} {ds : List D}
theorem opens_get {vs : List Nat} (h : opens ρ vs = true) (hi : i ∈ vs) : ∃ s, ρ[i]? = some s ∧ s.open = true := by
  have := List.all_eq_true.mp h i hi
  split at this
  · rename_i s e; exact ⟨s, e, this⟩
  · cases this
theorem plains_get {vs : List Nat} (h : plains ρ vs = true) (hi : i ∈ vs) : ρ[i]? = some .no ∨ ∃ d, ρ[i]? = some (.val d) := by
  have := List.all_eq_true.mp h i hi
  split at this
  · rename_i e; exact .inl e
  · rename_i d e; exact .inr ⟨d, e⟩
  · cases this
theorem plains_opens {vs : List Nat} (h : plains ρ vs = true) : opens ρ vs = true := by
  refine List.all_eq_true.mpr fun i hi => ?_
  rcases plains_get h hi with e | ⟨d, e⟩ <;> rw [e] <;> rfl
theorem blank_len {vs : List Nat} : (blank ρ vs).length = ρ.length := by
  induction vs with
  | nil => rfl
  | cons i r ih => simp [blank, ih]
theorem blank_out {vs : List Nat} {j : Nat} (h : j ∉ vs) : (blank ρ vs)[j]? = ρ[j]? := by
  induction vs with
  | nil => rfl
  | cons i r ih =>
    rw [List.mem_cons, not_or] at h
    show ((blank ρ r).set i .no)[j]? = ρ[j]?
    rw [setNe h.1, ih h.2]
theorem blank_in {vs : List Nat} {j : Nat} (h : j ∈ vs) (hl : j < ρ.length) : (blank ρ vs)[j]? = some .no := by
  induction vs with
  | nil => cases h
  | cons i r ih =>
    show ((blank ρ r).set i .no)[j]? = some .no
    by_cases z : j = i
    · subst z; rw [List.getElem?_set_self (by rw [blank_len]; exact hl)]
    · rw [setNe z]
      exact ih ((List.mem_cons.mp h).resolve_left z)
theorem EnvOk.blank {vs : List Nat} (E : EnvOk g F H ρ σ) (h : opens ρ vs = true) : EnvOk g F H (blank ρ vs) (wipe σ vs) := by
  induction vs with
  | nil => exact E
  | cons i r ih =>
    have hr : opens ρ r = true := List.all_eq_true.mpr fun j hj => List.all_eq_true.mp h j (List.mem_cons_of_mem _ hj)
    obtain ⟨s, e, so⟩ := opens_get h (i := i) List.mem_cons_self
    have E' := ih hr
    show EnvOk g F H ((J.blank ρ r).set i .no) ((wipe σ r).set i none)
    by_cases z : i ∈ r
    · exact E'.unset (blank_in z (E.lt e)) rfl
    · exact E'.unset (by rw [blank_out z]; exact e) so
theorem set_same {α : Type} {l : List α} {i : Nat} {x : α} (h : l[i]? = some x) : l.set i x = l := by
  refine List.ext_getElem? fun j => ?_
  by_cases z : j = i
  · subst z
    rw [List.getElem?_set_self (List.getElem?_eq_some_iff.mp h).1, h]
  · rw [setNe z]
theorem EnvOk.restore {g0 : Gh} {F0 H0 : Hp} {vs : List Nat} (E0 : EnvOk g0 F0 H0 ρ0 σ) (hK : g0.K = g.K) (hm : g0.mg = g.mg) (u : Same F0 F) (E : EnvOk g F H ρ (wipe σ vs)) (hp : plains ρ0 vs = true) (hn : ∀ i ∈ vs, ρ[i]? = some .no) (nd : vs.Nodup) : EnvOk g F H (restore ρ0 ρ vs) σ := by
  induction vs generalizing ρ with
  | nil => exact E
  | cons i r ih =>
    have hr : plains ρ0 r = true := List.all_eq_true.mpr fun j hj => List.all_eq_true.mp hp j (List.mem_cons_of_mem _ hj)
    obtain ⟨ni, nd'⟩ := List.nodup_cons.mp nd
    have hi := hn i List.mem_cons_self
    have hw : (wipe σ r)[i]? = σ[i]? := wipe_out ni
    have E1 : EnvOk g F H ρ ((wipe σ r).set i none) := E
    refine ih (ρ := ρ.set i _) ?_ hr (fun j hj => ?_) nd'
    · rcases plains_get hp (i := i) List.mem_cons_self with e | ⟨d, e⟩
      · rw [e]
        have li : i < (wipe σ r).length := by
          have := E1.len
          rw [List.length_set] at this
          rw [← this]; exact E.lt hi
        have := E1.unset (w := (wipe σ r)[i]) hi rfl
        rw [List.set_set, set_same (List.getElem?_eq_getElem li)] at this
        exact this
      · rw [e]
        obtain ⟨fp, S⟩ := E0.fps
        have q := S.ok i
        rw [e] at q
        obtain ⟨_, x, hx, rx⟩ := q
        have := E1.put (v := x) (d := d) (by rw [← hK, ← hm]; exact rx.up u) hi rfl
        have hw2 : ((wipe σ r).set i none).set i (some x) = wipe σ r := by
          rw [List.set_set]
          exact set_same (by rw [hw]; exact hx)
        rw [hw2] at this
        exact this
    · rw [setNe (fun z => by subst z; exact ni hj)]
      exact hn j (List.mem_cons_of_mem _ hj)
theorem wipe_ext {τ : L2.St} : ∀ {vs : List Nat}, (∀ j, j ∉ vs → τ[j]? = σ[j]?) → τ.length = σ.length → wipe τ vs = wipe σ vs := by
  intro vs h hl
  refine List.ext_getElem? fun j => ?_
  by_cases z : j ∈ vs
  · have key : ∀ (ρ : L2.St) (vs : List Nat), j ∈ vs → j < ρ.length → (wipe ρ vs)[j]? = some none := by
      intro ρ vs
      induction vs with
      | nil => intro z; cases z
      | cons i r ih =>
        intro z hj
        show ((wipe ρ r).set i none)[j]? = some none
        by_cases e : j = i
        · subst e; rw [List.getElem?_set_self (by rw [wipe_length]; exact hj)]
        · rw [setNe e]; exact ih ((List.mem_cons.mp z).resolve_left e) hj
    by_cases hj : j < σ.length
    · rw [key τ vs z (by omega), key σ vs z hj]
    · rw [List.getElem?_eq_none (by rw [wipe_length]; omega), List.getElem?_eq_none (by rw [wipe_length]; omega)]
  · rw [wipe_out z, wipe_out z]
    exact h j z

/-! ## a thing that is kept -/
theorem SlotOk.kp {j : Nat} {s : Option Slot} {w : Option (Option V)} {A : List Addr} {l : List (Addr × HO)} (h : SlotOk g F H j s w A) : SlotOk { g with KP := l } F H j s w A := by
  cases s with
  | none => exact h
  | some s => cases s <;> exact h
theorem SlotOk.kp' {j : Nat} {s : Option Slot} {w : Option (Option V)} {A : List Addr} {l : List (Addr × HO)} (h : SlotOk { g with KP := l } F H j s w A) : SlotOk g F H j s w A := by
  cases s with
  | none => exact h
  | some s => cases s <;> exact h
theorem EnvOk.kpNew {o : HO} (E : EnvOk g F H ρ σ) (h : H a = none) : EnvOk { g with KP := (a, o) :: g.KP } F (upd H a o) ρ σ := by
  have E' := E.ext (New.lst E.sub h (o := o))
  obtain ⟨fp, S⟩ := E.fps
  have na : ∀ i, a ∉ fp i := fun i z => by
    obtain ⟨_, u, e⟩ := (S.ok i).fp a z
    rw [h] at e; cases e
  refine ⟨E'.sub, E'.low, E'.new, E'.kept, E'.io, E'.ioH0, E'.lk, E'.lk2, fun p hp => ?_, E'.len, fp, fun i => ?_, S.sep, fun p hp i => ?_⟩
  · rcases List.mem_cons.mp hp with rfl | hp
    · exact ⟨upd_same, free_of E.sub h⟩
    · exact E'.kpH p hp
  · refine SlotOk.kp ((S.ok i).up (.refl _) (fun b hb => ((S.ok i).fp b hb).1) fun b hb => ?_)
    rw [upd_ne (fun z => by subst z; exact na i hb)]
  · rcases List.mem_cons.mp hp with rfl | hp
    · exact na i
    · exact S.kp p hp i
theorem EnvOk.kpStep {o o' : HO} {l : List (Addr × HO)} (E : EnvOk { g with KP := (a, o) :: l } F H ρ σ) (h0 : g.H0 a = none) (hl : ∀ p ∈ l, p.1 ≠ a) : EnvOk { g with KP := (a, o') :: l } F (upd H a o') ρ σ := by
  obtain ⟨fp, S⟩ := E.fps
  obtain ⟨ha, fa⟩ := E.kpH (a, o) List.mem_cons_self
  have na : ∀ i, a ∉ fp i := fun i => S.kp (a, o) List.mem_cons_self i
  refine ⟨fun b u e => ?_, E.low, E.new, fun b u e z => ?_, fun b z => ?_, E.ioH0, E.lk, E.lk2, fun p hp => ?_, E.len, fp, fun i => ?_, S.sep, fun p hp i => ?_⟩
  · rw [upd_ne (ne_of_none e fa)]; exact E.sub _ _ e
  · rw [upd_ne (ne_of_none e h0)]; exact E.kept b u e z
  · obtain ⟨f, u, e⟩ := E.io b z
    exact ⟨f, u, by rw [upd_ne (fun q => by subst q; exact E.ioH0 z h0)]; exact e⟩
  · rcases List.mem_cons.mp hp with rfl | hp
    · exact ⟨upd_same, fa⟩
    · obtain ⟨e, f⟩ := E.kpH p (List.mem_cons_of_mem _ hp)
      exact ⟨by rw [upd_ne (hl p hp)]; exact e, f⟩
  · refine SlotOk.kp (g := { g with KP := (a, o) :: l }) ((S.ok i).up (.refl _) (fun b hb => ((S.ok i).fp b hb).1) fun b hb => ?_)
    rw [upd_ne (fun z => by subst z; exact na i hb)]
  · rcases List.mem_cons.mp hp with rfl | hp
    · exact na i
    · exact S.kp p (List.mem_cons_of_mem _ hp) i
theorem EnvOk.kpOwn {vs : List V} (E : EnvOk { g with KP := (a, .lst vs) :: g.KP } F H ρ σ) (r : Reps g.K g.mg F vs ds) (h0 : g.H0 a = none) (hl' : ∀ p ∈ g.KP, p.1 ≠ a) : EnvOk g F H (ρ ++ [.own (.lst ds)]) (σ ++ [some (.ref a)]) := by
  obtain ⟨fp, S⟩ := E.fps
  obtain ⟨ha, fa⟩ := E.kpH (a, .lst vs) List.mem_cons_self
  have na : ∀ i, a ∉ fp i := fun i => S.kp (a, .lst vs) List.mem_cons_self i
  have hl := E.len
  refine ⟨E.sub, E.low, E.new, E.kept, E.io, E.ioH0, fun j x d hj => ?_, fun j d hj => E.lk2 j d ?_, fun p hp => E.kpH p (List.mem_cons_of_mem _ hp), by simpa using hl, fun j => if j = ρ.length then [a] else fp j, fun j => ?_, fun j k b nj hj hb hk => ?_, fun p hp j => ?_⟩
  · obtain ⟨e1, e2⟩ := E.lk j x d hj
    have lj : j < ρ.length := (List.getElem?_eq_some_iff.mp e2.1).1
    exact ⟨by rw [List.getElem?_append_left (hl ▸ lj)]; exact e1, by unfold Locked; rw [List.getElem?_append_left lj]; exact e2⟩
  · have l2 : j ≠ ρ.length := fun z => by
      subst z
      obtain ⟨e2, e3⟩ := hj
      rw [List.getElem?_append_right (Nat.le_refl _), Nat.sub_self] at e2
      have h := Option.some.inj e2
      subst h
      cases e3
    have l1 : j < (ρ ++ [Slot.own (.lst ds)]).length := (List.getElem?_eq_some_iff.mp hj.1).1
    have lj : j < ρ.length := by simp at l1; omega
    unfold Locked at hj ⊢
    rw [List.getElem?_append_left lj] at hj
    exact hj
  · by_cases z : j = ρ.length
    · subst z
      rw [if_pos rfl]
      have e1 : (ρ ++ [Slot.own (.lst ds)])[ρ.length]? = some (.own (.lst ds)) := by simp
      have e2 : (σ ++ [some (V.ref a)])[ρ.length]? = some (some (.ref a)) := by rw [hl]; simp
      rw [e1, e2]
      exact ⟨.ref a, rfl, .lst fa ha r, fun b hb => by simp at hb; subst hb; exact h0⟩
    · rw [if_neg z]
      have q := (S.ok j).kp'
      by_cases lj : j < ρ.length
      · rw [List.getElem?_append_left lj, List.getElem?_append_left (hl ▸ lj)]
        exact q
      · have e1 : (ρ ++ [Slot.own (.lst ds)])[j]? = none := List.getElem?_eq_none (by simp; omega)
        have e0 : ρ[j]? = none := List.getElem?_eq_none (by omega)
        rw [e0] at q
        rw [e1]
        exact q
  · by_cases zj : j = ρ.length
    · simp only [if_pos zj] at hb
      rw [if_neg (fun z => nj (zj.trans z.symm))] at hk
      simp at hb; subst hb
      exact na k hk
    · simp only [if_neg zj] at hb
      by_cases zk : k = ρ.length
      · simp only [if_pos zk] at hk
        simp at hk; subst hk
        exact na j hb
      · simp only [if_neg zk] at hk
        refine S.sep j k b nj ?_ hb hk
        obtain ⟨e, he⟩ := hj
        have lj : j < ρ.length := by
          have : j < (ρ ++ [Slot.own (.lst ds)]).length := by
            rcases he with h | h | h | h <;> exact (List.getElem?_eq_some_iff.mp h).1
          simp at this; omega
        exact ⟨e, by rw [List.getElem?_append_left lj] at he; exact he⟩
  · by_cases z : j = ρ.length
    · simp only [if_pos z]
      intro hb
      exact hl' p hp (by simpa using hb)
    · simp only [if_neg z]; exact S.kp p (List.mem_cons_of_mem _ hp) j
end

/-! ## comprehensions -/
def blankC (ρ : Env) (own : List Nat) : Option Env := if opens ρ own = true then some (blank ρ own) else none
def loopC (own : List Nat) (st : TgS) (c : ST) (el : SE) : List D → Env → List D → Option (List D × Env)
  | [], ρ, acc => some (acc, ρ)
  | d :: r, ρ, acc => match st d ρ with
    | none => none
    | some ρ1 => (match c ρ1 with
      | .ok true ρ2 => (match evArg (.e el) ρ2 with
        | .ok (.d e) ρ3 => (blankC ρ3 own).bind fun ρ4 => loopC own st c el r ρ4 (acc ++ [e])
        | _ => none)
      | .ok false ρ2 => (blankC ρ2 own).bind fun ρ4 => loopC own st c el r ρ4 acc
      | _ => none)
def sComp (it : SI) (own : List Nat) (st : TgS) (c : ST) (el : SE) : SE := fun ρ => (it ρ).bind fun a ρ1 => if plains ρ1 own = true ∧ a.1.length < sizeLine then (match loopC own st c el a.1 (blank ρ1 own) [] with
  | some (acc, ρ2) => .ok (true, .lst acc) (unlock a.2 (restore ρ1 ρ2 own))
  | none => .no) else .no
def cYes : ST := fun ρ => .ok true ρ
abbrev W0 : WX := fun _ _ _ _ => False
section
variable {X : Cx} {g : Gh} {W : WX} {pos : Pos}
def tEx (X : Cx) (W : WX) (f : SE) : TE := fun σ H Q => ∃ g, Gok X g ∧ tE g W f σ H Q
def tTx (X : Cx) (W : WX) (f : ST) : TT := fun σ H Q => ∃ g, Gok X g ∧ tT g W f σ H Q
theorem jex {e : Expr} {f : SE} {Y : Cx} (h : ∀ g, Gok X g → PE Y e (tE g W f)) : PE Y e (tEx X W f) := ⟨fun pins s σ H E I ⟨g, G, q⟩ => (h g G).run pins s σ H E I q⟩
theorem jtx {e : List Expr} {f : ST} {Y : Cx} (h : ∀ g, Gok X g → PTs Y e (tT g W f)) : PTs Y e (tTx X W f) := ⟨fun pins s σ H E I ⟨g, G, q⟩ => (h g G).run pins s σ H E I q⟩
theorem yesJ {Y : Cx} : PTs Y [] (tT g W cYes) := ⟨fun pins s σ H Q I ⟨F, ρ, e, q⟩ => pts_nil.run pins s σ H Q I (q F H (.refl _) e)⟩
theorem oneJ {Y : Cx} {c : Expr} {f : ST} (h : PT Y c (tT g W f)) : PTs Y [c] (tT g W f) := pts_one h
/-- what a comprehension's reading is -/
theorem comp_run {σ : L2.St} {H : Hp} {Q : VK} {it : SI} {own : List Nat} {gr : TG} {st : TgS} {ix : List Nat} {fc : ST} {fe : SE} (G : Gok X g) (ht : TgOk X.K gr st ix) (hix : ∀ i ∈ ix, i ∈ own) (nd : own.Nodup) (h : tE g W (sComp it own st fc fe) σ H Q) :
    tLc (tI g W it) gr (tTx X W0 fc) (tEx X W0 fe) own σ H Q := by
  obtain ⟨F, ρ, e, q⟩ := h
  refine ⟨F, ρ, e, (Goes.bind q).imp fun a ρ1 F1 H1 u q x d L J hn E1 keep wk L0 hD => ?_⟩
  obtain ⟨ds, lk⟩ := a
  dsimp only at q hn E1 keep wk
  by_cases hz : plains ρ1 own = true ∧ ds.length < sizeLine
  rotate_left
  · rw [if_neg hz] at q; exact q.elim
  rw [if_pos hz] at q
  obtain ⟨hp, hlen⟩ := hz
  cases hl : loopC own st fc fe ds (blank ρ1 own) [] with
  | none => rw [hl] at q; exact q.elim
  | some w =>
    obtain ⟨acc, ρ2⟩ := w
    rw [hl] at q
    let g1 := lockG g lk x d
    have h00 : g1.H0 L0 = none := E1.h0 hD
    have hkp : ∀ p ∈ g1.KP, p.1 ≠ L0 := fun p hp' z => by
      have := (E1.kpH p hp').1
      rw [z, hD] at this; cases this
    have EB := E1.blank (plains_opens hp)
    have EK := EB.kpNew (a := L0) (o := .lst []) hD
    have inB : ∀ {ρ' : Env}, (∀ i ∈ own, i < ρ'.length) → ∀ i ∈ own, (blank ρ' own)[i]? = some .no := fun h i hi => blank_in hi (h i hi)
    have lenO : ∀ {ρ' : Env}, opens ρ' own = true → ∀ i ∈ own, i < ρ'.length := fun h i hi => by
      obtain ⟨s, e, _⟩ := opens_get h hi
      exact (List.getElem?_eq_some_iff.mp e).1
    refine ⟨fun i m H2 => ∃ F2 ρ3 vs ac, EnvOk { g1 with KP := (L0, .lst vs) :: g1.KP } F2 H2 ρ3 (wipe σ own) ∧ Same F1 F2 ∧ (∀ i ∈ own, ρ3[i]? = some .no) ∧ Reps g1.K g1.mg F2 vs ac ∧ ac.length ≤ i ∧ i ≤ ds.length ∧ m = ds.length - i ∧ loopC own st fc fe (ds.drop i) ρ3 ac = some (acc, ρ2),
      ⟨ds.length, F1, _, [], [], EK, .refl _, inB (lenO (plains_opens hp)), .nil, Nat.le_refl _, Nat.zero_le _, rfl, hl⟩, ?_⟩
    rintro i m H2 ⟨F2, ρ3, vs, ac, E2, u2, hno, ra, hal, hi, rfl, hl2⟩
    have l2 : L F2 H2 := keep F2 H2 ρ3 (wipe σ own) _ E2 u2
    by_cases hlt : i < ds.length
    · refine .inr ⟨wk.go F2 H2 i E2.sub l2 hlt, fun H3 => ∃ F3 ρ4 vs ac, EnvOk { g1 with KP := (L0, .lst vs) :: g1.KP } F3 H3 ρ4 (wipe σ own) ∧ Same F1 F3 ∧ (∀ i ∈ own, ρ4[i]? = some .no) ∧ Reps g1.K g1.mg F3 vs ac ∧ ac.length ≤ i + 1 ∧ loopC own st fc fe (ds.drop (i + 1)) ρ4 ac = some (acc, ρ2), ?_, ?_⟩
      · rintro H3 ⟨F3, ρ4, vs', ac', E3, u3, h3, r3, l3, q3⟩
        exact ⟨ds.length - (i + 1), by omega, F3, ρ4, vs', ac', E3, u3, h3, r3, l3, hlt, rfl, q3⟩
      · intro y H3 hy
        have hd : ds[i]? = some ds[i] := List.getElem?_eq_getElem hlt
        obtain ⟨F3, n3, r3⟩ := wk.yld F2 H2 i ds[i] y H3 E2.sub l2 hd hy
        have E3 := E2.ext n3
        rw [List.drop_eq_getElem_cons hlt] at hl2
        unfold loopC at hl2
        cases e1 : st ds[i] ρ3 with
        | none => rw [e1] at hl2; cases hl2
        | some ρ4 =>
          rw [e1] at hl2
          have gK : ({ g1 with KP := (L0, .lst vs) :: g1.KP } : Gh).K = X.K := by show (lockG g lk x d).K = X.K; rw [lockG_K]; exact G.K.symm
          have gG : Gok X { g1 with KP := (L0, .lst vs) :: g1.KP } := ⟨gK.symm, by show X.mg = (lockG g lk x d).mg; rw [lockG_mg]; exact G.mg⟩
          refine ht { g1 with KP := (L0, .lst vs) :: g1.KP } F3 H3 ρ3 ρ4 (wipe σ own) y ds[i] _ gK E3 (by show Rep (lockG g lk x d).K (lockG g lk x d).mg F3 y ds[i]; rw [lockG_K, lockG_mg]; exact r3) e1 fun σ3 E4 o4 len4 => ?_
          have hw : wipe σ3 own = wipe (wipe σ own) own := wipe_ext (fun j hj => o4 j fun z => hj (hix j z)) len4
          have hww : wipe (wipe σ own) own = wipe σ own := wipe_ext (fun j hj => wipe_out hj) (by rw [wipe_length])
          refine ⟨hw.trans hww, { g1 with KP := (L0, .lst vs) :: g1.KP }, gG, F3, ρ4, E4, ?_⟩
          dsimp only at hl2
          cases e2 : fc ρ4 with
          | exc _ _ => rw [e2] at hl2; cases hl2
          | no => rw [e2] at hl2; cases hl2
          | ok b ρ5 =>
            rw [e2] at hl2
            intro F5 H5 u5 E5
            cases b with
            | false =>
              rw [if_neg Bool.false_ne_true]
              dsimp only at hl2
              unfold blankC at hl2
              by_cases ho : opens ρ5 own = true
              · rw [if_pos ho] at hl2
                have E6 := E5.blank ho
                rw [hw, hww] at E6
                exact ⟨F5, _, vs, ac, E6, (u2.trans n3.uF).trans u5, inB (lenO ho), (ra.up n3.uF).up u5, by omega, hl2⟩
              · rw [if_neg ho] at hl2; cases hl2
            | true =>
              rw [if_pos rfl]
              dsimp only at hl2
              refine ⟨{ g1 with KP := (L0, .lst vs) :: g1.KP }, gG, F5, ρ5, E5, ?_⟩
              cases e3 : fe ρ5 with
              | exc _ _ => simp only [evArg, e3, R.bind] at hl2; cases hl2
              | no => simp only [evArg, e3, R.bind] at hl2; cases hl2
              | ok c ρ6 =>
                simp only [evArg, e3, R.bind] at hl2
                intro F6 H6 u6 z A
                by_cases hs : (c.1 && !c.2.seals) = true
                · rw [if_pos hs] at hl2; cases hl2
                · rw [if_neg hs] at hl2
                  obtain ⟨fr, dd⟩ := c
                  obtain ⟨F7, E7, u7, r7⟩ := A.seal (by simpa using hs)
                  dsimp only at hl2
                  unfold blankC at hl2
                  by_cases ho : opens ρ6 own = true
                  · rw [if_pos ho] at hl2
                    have hH : H6 L0 = some (.lst vs) := (E7.kpH (L0, .lst vs) List.mem_cons_self).1
                    have u37 : Same F2 F7 := ((n3.uF.trans u5).trans u6).trans u7
                    refine ⟨vs, hH, by rw [ra.length]; omega, F7, blank ρ6 own, vs ++ [z], ac ++ [dd], ?_, u2.trans u37, inB (lenO ho), (ra.up u37).append (.cons r7 .nil), by simp; omega, hl2⟩
                    have E8 := (E7.blank ho).kpStep (o' := .lst (vs ++ [z])) h00 hkp
                    rw [hw, hww] at E8
                    exact E8
                  · rw [if_neg ho] at hl2; cases hl2
    · have e : i = ds.length := by omega
      subst e
      refine .inl ⟨wk.stop F2 H2 E2.sub l2, ?_⟩
      rw [List.drop_length] at hl2
      cases hl2
      have ER := EnvOk.restore (g := { g1 with KP := (L0, .lst vs) :: g1.KP }) E1 rfl rfl u2 E2 hp hno nd
      have EO := ER.kpOwn (ds := acc) ra h00 hkp
      have A : After g1 F2 H2 (restore ρ1 ρ2 own) σ (.ref L0) (true, .lst acc) := EO
      exact q F2 H2 u2 (.ref L0) (A.unlock hn)
theorem jComp {elt tg iter : Expr} {ifs : List Expr} {scope : Scope} {own : List (Str × Nat)} {it : SI} {gr : TG} {st : TgS} {ix : List Nat} {fc : ST} {fe : SE} (G : Gok X g) (hc : X.calm = true) (hN : X.N.Nodup) (hi : PI X tg iter (tI g W it)) (ok : BlkOk X.N X.env.scope scope own)
    (hg : ∀ (s : Shared) (H : Hp) (C : Addr) (cl : List (Str × Addr)) (fp : List Addr), PG (X.blk s H scope (compEnvC scope cl C X.env) fp) tg gr) (tk : TgOk X.K gr st ix)
    (ht : ∀ (s : Shared) (H : Hp) (C : Addr) (cl : List (Str × Addr)) (fp : List Addr) g, Gok X g → PTs (X.blk s H scope (compEnvC scope cl C X.env) fp) ifs (tT g W0 fc))
    (he : ∀ (s : Shared) (H : Hp) (C : Addr) (cl : List (Str × Addr)) (fp : List Addr) g, Gok X g → PE (X.blk s H scope (compEnvC scope cl C X.env) fp) elt (tE g W0 fe))
    (hix : ∀ i ∈ ix, i ∈ own.map (·.2)) (nd : (own.map (·.2)).Nodup) (hs : ∀ x, foldedSetIterable iter X.env x = pure x := by intro _; rfl) :
    PE X (.ListComp elt [⟨tg, iter, ifs, 0⟩] scope pos) (tE g W (sComp it (own.map (·.2)) st fc fe)) :=
  PEimp (pe_lc hc hN hi ok hg (fun s H C cl fp => jtx (ht s H C cl fp)) (fun s H C cl fp => jex (he s H C cl fp)) hs) fun σ H Q h => comp_run G tk hix nd h
theorem kSetC {i : Nat} {y : Str} {py spos : Pos} {elt tg iter : Expr} {ifs : List Expr} {scope : Scope} {own : List (Str × Nat)} {it : SI} {gr : TG} {st : TgS} {ix : List Nat} {fc : ST} {fe : SE} (G : Gok X g) (hc : X.calm = true) (hN : X.N.Nodup) (hy : X.N[i]? = some y) (hyl : X.env.scope.names.lookup y = some .local)
    (hsw : swapsWith (.ListComp elt [⟨tg, iter, ifs, 0⟩] scope pos) (some (.Name y py)) spos.line X.env = pure true) (hi : PI X tg iter (tI g W it)) (ok : BlkOk X.N X.env.scope scope own)
    (hg : ∀ (s : Shared) (H : Hp) (C : Addr) (cl : List (Str × Addr)) (fp : List Addr), PG (X.blk s H scope (compEnvC scope cl C X.env) fp) tg gr) (tk : TgOk X.K gr st ix)
    (ht : ∀ (s : Shared) (H : Hp) (C : Addr) (cl : List (Str × Addr)) (fp : List Addr) g, Gok X g → PTs (X.blk s H scope (compEnvC scope cl C X.env) fp) ifs (tT g W0 fc))
    (he : ∀ (s : Shared) (H : Hp) (C : Addr) (cl : List (Str × Addr)) (fp : List Addr) g, Gok X g → PE (X.blk s H scope (compEnvC scope cl C X.env) fp) elt (tE g W0 fe))
    (hix : ∀ i ∈ ix, i ∈ own.map (·.2)) (nd : (own.map (·.2)).Nodup) (hs : ∀ x, foldedSetIterable iter X.env x = pure x := by intro _; rfl) :
    PS X (.Assign [.Name y py] (.ListComp elt [⟨tg, iter, ifs, 0⟩] scope pos) spos) (tS g W (bSet i (sComp it (own.map (·.2)) st fc fe))) :=
  PSimp (ps_setLc hc hN hy hyl hsw hi ok hg (fun s H C cl fp => jtx (ht s H C cl fp)) (fun s H C cl fp => jex (he s H C cl fp)) hs) fun E σ H h => comp_run G tk hix nd (set_run h)
end
end J

namespace J
open PySem PySem.Spec PyProof.Rows L2

/-! ## a def's promise, where nothing is being shown (guards) -/
structure Fn (P : Program) (w : World) (K : PySem.W.Frag) (mg : Str → Option Value) (base : Heap) (k : Nat) (f : Addr) (fd : FuncData) (ps : List Str) (sp : Sp) : Prop where
  len : ∀ vs H Q E, sp vs H Q E → vs.length = ps.length
  run : ∀ (A : Around) (outer : List PySem.Env) (s : Shared) (H : Hp) (as : Args) (us : List Value) (vs : List V) (Q : VK) (E : XK), A.guards = some [] → Room k A → Env0 P w K mg base A outer s H → BindsTo s fd as (ps.zip us) → Vals vs us → sp vs H Q E →
    codeAny (model P w) A (.call (.ref f) as) (CR (L2.CX P w) outer P w H s Q E) s
theorem Fn.mono {P : Program} {w : World} {K : PySem.W.Frag} {mg : Str → Option Value} {base : Heap} {j k : Nat} {f : Addr} {fd : FuncData} {ps : List Str} {sp : Sp} (F : Fn P w K mg base j f fd ps sp) (h : j ≤ k) : Fn P w K mg base k f fd ps sp :=
  ⟨F.len, fun A outer s H as us vs Q E hG hr => F.run A outer s H as us vs Q E hG (hr.mono h)⟩
theorem Fn.of {P : Program} {w : World} {K : PySem.W.Frag} {mg : Str → Option Value} {base : Heap} {j : Nat} {f : Addr} {fd : FuncData} {ps : List Str} {sp sp' : Sp} (F : FnOk P w K mg base (L2.CX P w) j f fd ps sp) (h : ∀ vs H Q E, sp' vs H Q E → sp vs H Q E) : Fn P w K mg base j f fd ps sp' :=
  ⟨fun vs H Q E q => F.len vs H Q E (h _ _ _ _ q), fun A outer s H as us vs Q E hG hr he hb hv hs => F.run A outer s H as us vs Q E hr he hb hv (h _ _ _ _ hs)⟩
theorem fnRule {P : Program} {w : World} {K : PySem.W.Frag} {mg : Str → Option Value} {base : Heap} {x qual : Str} {st : Stmt} {f : Addr} {fd : FuncData} {N ps : List Str} {k : Nat} {sp : Sp} (F : Fun K x qual st f fd) (S : FnScope N ps (defScope st)) (len : ∀ vs H Q E, sp vs H Q E → vs.length = ps.length)
    (hbody : ∀ (cdv : Value) (A : Around) (outer : List PySem.Env) (s : Shared) (H : Hp) (vs : List V) (Q : VK) (E : XK), A.guards = some [] → Room k (A.deeper (envOfC qual (defScope st) s.heap.objs.size f cdv)) → sp vs H Q E →
      ∃ t, PSs (cxOf (L2.CX P w) P w K mg base N qual (defScope st) f cdv A outer s H E) (defBody st) t ∧ t { nx := fun _ H' => Q .non H', rt := Q } (L2.start N vs) H) : Fn P w K mg base (k + 1) f fd ps sp := by
  obtain ⟨oc, od, kV, doc, pm, an, cdv, ct, osl, rfl, lk, hcd⟩ := F.ex
  refine ⟨len, fun A outer s H as us vs Q E hG hr e0 hb rv hsp => ?_⟩
  have old : ∀ b o, base.get? b = some o → s.heap.get? b = some o := fun b o e => (e0.bs b o e).1
  have hkind : ∀ y ∈ ps.zip us, (defScope st).names.lookup y.1 = some .local ∨ ((defScope st).names.lookup y.1 = some .cell ∧ ((cellsFrom (s.heap.objs.size + 1) (defScope st).names []).lookup y.1).isSome = true) := by
    rintro ⟨n, v⟩ hy
    exact (S.par n (List.of_mem_zip hy).1).imp id fun q => ⟨q, PySem.W.cellsFrom_some _ _ _ (.inl q)⟩
  refine codeAny_call_function hr.depth (e0.mod.kin.keeps old _ _ lk) rfl S.co S.gen rfl (PySem.W.codeRec_of (e0.mod.kin.keeps old) hcd) (hb _ _ _ _ ?_)
  refine wpAny_newFunctionEnv_cells S.kind hkind fun env he s1 ic => ?_
  subst he
  refine ⟨(e0.mod.nolimit.keeps old).keeps ic.toInCall.keep, codeAny_func ?_⟩
  obtain ⟨t, ht, hq⟩ := hbody cdv A outer s H vs Q E hG (hr.deeper _) hsp
  have I := inv_start (CX := L2.CX P w) (E := E) S hr.hd e0 (len _ _ _ _ hsp) rv ic
  refine wpAny_mono (ht.run [] s1 _ H _ I hq) (fun fl s' hs => ?_) fun e s' hs => hs
  cases fl with
  | ret u =>
    obtain ⟨v, σ', H', J, r2, q⟩ := hs
    exact ⟨v, H', J.os, J.bare, J.base, J.hok, r2, q⟩
  | next =>
    obtain ⟨σ', H', J, q⟩ := hs
    exact ⟨V.non, H', J.os, J.bare, J.base, J.hok, rfl, q⟩
  | brk => exact hs.choose_spec.choose_spec.2.elim
  | cont => exact hs.choose_spec.choose_spec.2.elim

/-! ## the promise by values -/
inductive RF where
  | ok (a : Bool × D) (out : D)
  | exc (x : D) (out : D)
  | no
/-- arguments by value, lent ones (true) -/
inductive ArgsVL (K : PySem.W.Frag) (mg : Str → Option Value) (F H : Hp) (A : List Addr) : List Bool → List V → List D → Prop
  | nil : ArgsVL K mg F H A [] [] []
  | val {v d md vs ds} (r : Rep K mg F v d) (t : ArgsVL K mg F H A md vs ds) : ArgsVL K mg F H A (false :: md) (v :: vs) (d :: ds)
  | rep {v d md vs ds} (r : Rep K mg F v d) (t : ArgsVL K mg F H A md vs ds) : ArgsVL K mg F H A (true :: md) (v :: vs) (d :: ds)
  | lent {v d B md vs ds} (o : Own K mg F H v d B) (dj : ∀ a ∈ B, a ∉ A) (t : ArgsVL K mg F H A md vs ds) : ArgsVL K mg F H A (true :: md) (v :: vs) (d :: ds)
structure Post (F H F' H' : Hp) (A : List Addr) : Prop where
  uF : Same F F'
  sub : Same F' H'
  new : ∀ a o, F' a = some o → F a = some o ∨ H a = none
  kept : ∀ a o, H a = some o → a ∉ A → H' a = some o
def ResC (K : PySem.W.Frag) (mg : Str → Option Value) (H F' H' : Hp) (v : V) : Bool × D → Prop
  | (true, d) => ∃ A, Own K mg F' H' v d A ∧ ∀ a ∈ A, H a = none
  | (false, d) => Rep K mg F' v d
def ExcC (K : PySem.W.Frag) (mg : Str → Option Value) (F : Hp) (cls : Value) (dd : Option Addr) (x : D) : Prop := ExcV ⟨K, mg, F, F, [], [], []⟩ F cls dd x
/-- no argument is changed -/
def spV (K : PySem.W.Frag) (mg : Str → Option Value) (md : List Bool) (m : List D → RF) : Sp := fun vs H Q E => ∃ F ds, Same F H ∧ ArgsVL K mg F H [] md vs ds ∧ match m ds with
  | .ok a _ => ∀ v H' F', Post F H F' H' [] → ResC K mg H F' H' v a → Q v H'
  | .exc x _ => ∀ cls dd H' F', Post F H F' H' [] → ExcC K mg F' cls dd x → E cls dd H'
  | .no => False
/-- the first argument may be changed -/
def spI (K : PySem.W.Frag) (mg : Str → Option Value) (md : List Bool) (m : List D → RF) : Sp := fun vs H Q E => ∃ F v0 d0 A vs' ds, vs = v0 :: vs' ∧ Same F H ∧ Own K mg F H v0 d0 A ∧ ArgsVL K mg F H A md vs' ds ∧ match m (d0 :: ds) with
  | .ok a out => ∀ v H' F', Post F H F' H' A → Own K mg F' H' v0 out A → ResC K mg H F' H' v a → Q v H'
  | .exc x out => ∀ cls dd H' F', Post F H F' H' A → Own K mg F' H' v0 out A → ExcC K mg F' cls dd x → E cls dd H'
  | .no => False

def slotsVL : List Bool → List D → Env
  | false :: md, d :: ds => .val d :: slotsVL md ds
  | true :: md, d :: ds => .lent d :: slotsVL md ds
  | _, _ => []
def lkVL : Nat → List Bool → List V → List D → List (Nat × V × Slot)
  | n, false :: md, _ :: vs, _ :: ds => lkVL (n + 1) md vs ds
  | n, true :: md, v :: vs, d :: ds => (n, v, .lent d) :: lkVL (n + 1) md vs ds
  | _, _, _, _ => []
section
variable {K : PySem.W.Frag} {mg : Str → Option Value} {F H : Hp} {A : List Addr}
theorem ArgsVL.len {md : List Bool} {vs : List V} {ds : List D} (h : ArgsVL K mg F H A md vs ds) : vs.length = md.length ∧ ds.length = md.length ∧ (slotsVL md ds).length = md.length := by
  induction h with
  | nil => exact ⟨rfl, rfl, rfl⟩
  | val r t ih => exact ⟨by simp [ih.1], by simp [ih.2.1], by simp [slotsVL, ih.2.2]⟩
  | rep r t ih => exact ⟨by simp [ih.1], by simp [ih.2.1], by simp [slotsVL, ih.2.2]⟩
  | lent o dj t ih => exact ⟨by simp [ih.1], by simp [ih.2.1], by simp [slotsVL, ih.2.2]⟩
theorem lkVL_ge {n : Nat} {md : List Bool} {vs : List V} {ds : List D} {j : Nat} {x : V} {s : Slot} (h : (j, x, s) ∈ lkVL n md vs ds) : n ≤ j := by
  induction md generalizing n vs ds with
  | nil => simp [lkVL] at h
  | cons b md ih =>
    cases vs with
    | nil => cases b <;> simp [lkVL] at h
    | cons v vs =>
      cases ds with
      | nil => cases b <;> simp [lkVL] at h
      | cons d ds =>
        cases b with
        | false => have := ih (n := n + 1) (vs := vs) (ds := ds) h; omega
        | true =>
          rcases List.mem_cons.mp h with e | h
          · cases e; exact Nat.le_refl _
          · have := ih (n := n + 1) (vs := vs) (ds := ds) h; omega
/-- one more slot -/
theorem EnvOk.push {g : Gh} {ρ : Env} {σ : L2.St} {s : Slot} {v : V} {B : List Addr} {l : List (Nat × V × Slot)} (E : EnvOk g F H ρ σ) (hs : SlotOk { g with LK := l } F H ρ.length (some s) (some (some v)) B) (nh : ∀ d, s ≠ .own d ∧ s ≠ .io d ∧ s ≠ .lown d ∧ s ≠ .lio d)
    (hl : (s.open = true ∧ l = g.LK) ∨ (s.open = false ∧ l = (ρ.length, v, s) :: g.LK)) (dj : ∀ fp, Slots g F H ρ σ fp → ∀ i a, Holds ρ i → a ∈ fp i → a ∉ B) (kp : ∀ p ∈ g.KP, p.1 ∉ B) : EnvOk { g with LK := l } F H (ρ ++ [s]) (σ ++ [some v]) := by
  obtain ⟨fp, S⟩ := E.fps
  have hl' := E.len
  have dj := dj fp S
  have up : ∀ {j : Nat} {x : V} {t : Slot}, (j, x, t) ∈ g.LK → (σ ++ [some v])[j]? = some (some x) ∧ Locked (ρ ++ [s]) j t := fun {j x t} h => by
    obtain ⟨e1, e2, e3⟩ := E.lk j x t h
    have lj : j < ρ.length := (List.getElem?_eq_some_iff.mp e2).1
    exact ⟨by rw [List.getElem?_append_left (hl' ▸ lj)]; exact e1, by rw [List.getElem?_append_left lj]; exact e2, e3⟩
  refine ⟨E.sub, E.low, E.new, E.kept, E.io, E.ioH0, fun j x t hj => ?_, fun j t hj => ?_, E.kpH, by simpa using hl', fun j => if j = ρ.length then B else fp j, fun j => ?_, fun j k a nj hj ha hk => ?_, fun p hp j => ?_⟩
  · rcases hl with ⟨_, rfl⟩ | ⟨so, rfl⟩
    · exact up hj
    · rcases List.mem_cons.mp hj with e | hj
      · cases e
        exact ⟨by rw [hl']; simp, by simp, so⟩
      · exact up hj
  · obtain ⟨e, so⟩ := hj
    by_cases z : j = ρ.length
    · subst z
      rw [List.getElem?_append_right (Nat.le_refl _), Nat.sub_self] at e
      have h := Option.some.inj e
      subst h
      rcases hl with ⟨so', _⟩ | ⟨_, rfl⟩
      · rw [so] at so'; cases so'
      · exact ⟨v, List.mem_cons_self⟩
    · have lj : j < ρ.length := by
        have := (List.getElem?_eq_some_iff.mp e).1
        simp at this; omega
      rw [List.getElem?_append_left lj] at e
      obtain ⟨x, hx⟩ := E.lk2 j t ⟨e, so⟩
      rcases hl with ⟨_, rfl⟩ | ⟨_, rfl⟩
      · exact ⟨x, hx⟩
      · exact ⟨x, List.mem_cons_of_mem _ hx⟩
  · by_cases z : j = ρ.length
    · subst z
      rw [if_pos rfl]
      have e1 : (ρ ++ [s])[ρ.length]? = some s := by simp
      have e2 : (σ ++ [some v])[ρ.length]? = some (some v) := by rw [hl']; simp
      rw [e1, e2]
      exact hs
    · rw [if_neg z]
      have q := (S.ok j).lk (l := l)
      by_cases lj : j < ρ.length
      · rw [List.getElem?_append_left lj, List.getElem?_append_left (hl' ▸ lj)]
        exact q
      · have e1 : (ρ ++ [s])[j]? = none := List.getElem?_eq_none (by simp; omega)
        have e0 : ρ[j]? = none := List.getElem?_eq_none (by omega)
        rw [e0] at q
        rw [e1]
        exact q
  · have lj : j < ρ.length := by
      obtain ⟨e, he⟩ := hj
      have h1 : j < (ρ ++ [s]).length := by
        rcases he with h | h | h | h <;> exact (List.getElem?_eq_some_iff.mp h).1
      have h2 : j ≠ ρ.length := fun z => by
        subst z
        rw [List.getElem?_append_right (Nat.le_refl _), Nat.sub_self] at he
        obtain ⟨n1, n2, n3, n4⟩ := nh e
        rcases he with h | h | h | h
        · exact n1 (Option.some.inj h)
        · exact n2 (Option.some.inj h)
        · exact n3 (Option.some.inj h)
        · exact n4 (Option.some.inj h)
      simp at h1; omega
    have hj' : Holds ρ j := by
      obtain ⟨e, he⟩ := hj
      rw [List.getElem?_append_left lj] at he
      exact ⟨e, he⟩
    simp only [if_neg (Nat.ne_of_lt lj)] at ha
    by_cases zk : k = ρ.length
    · simp only [if_pos zk] at hk
      exact dj j a hj' ha hk
    · simp only [if_neg zk] at hk
      exact S.sep j k a nj hj' ha hk
  · by_cases z : j = ρ.length
    · simp only [if_pos z]; exact kp p hp
    · simp only [if_neg z]; exact S.kp p hp j
theorem EnvOk.pushNo {g : Gh} {ρ : Env} {σ : L2.St} (E : EnvOk g F H ρ σ) : EnvOk g F H (ρ ++ [.no]) (σ ++ [none]) := by
  obtain ⟨fp, S⟩ := E.fps
  have hl' := E.len
  have in' : ∀ {j : Nat} {t : Slot}, (ρ ++ [Slot.no])[j]? = some t → t = .no ∨ (j < ρ.length ∧ ρ[j]? = some t) := fun {j t} h => by
    by_cases z : j < ρ.length
    · rw [List.getElem?_append_left z] at h; exact .inr ⟨z, h⟩
    · have h1 := (List.getElem?_eq_some_iff.mp h).1
      have : j = ρ.length := by simp at h1; omega
      subst this
      rw [List.getElem?_append_right (Nat.le_refl _), Nat.sub_self] at h
      exact .inl (Option.some.inj h).symm
  refine ⟨E.sub, E.low, E.new, E.kept, E.io, E.ioH0, fun j x t hj => ?_, fun j t hj => ?_, E.kpH, by simpa using hl', fun j => if j < ρ.length then fp j else [], fun j => ?_, fun j k a nj hj ha hk => ?_, fun p hp j => ?_⟩
  · obtain ⟨e1, e2, e3⟩ := E.lk j x t hj
    have lj : j < ρ.length := (List.getElem?_eq_some_iff.mp e2).1
    exact ⟨by rw [List.getElem?_append_left (hl' ▸ lj)]; exact e1, by rw [List.getElem?_append_left lj]; exact e2, e3⟩
  · rcases in' hj.1 with e | ⟨_, e⟩
    · subst e; cases hj.2
    · exact E.lk2 j t ⟨e, hj.2⟩
  · have q := S.ok j
    by_cases lj : j < ρ.length
    · rw [List.getElem?_append_left lj, List.getElem?_append_left (hl' ▸ lj), if_pos lj]
      exact q
    · rw [if_neg lj]
      cases e : (ρ ++ [Slot.no])[j]? with
      | none => rfl
      | some t =>
        rcases in' e with e | ⟨z, _⟩
        · subst e; rfl
        · exact absurd z lj
  · obtain ⟨e, he⟩ := hj
    have : Holds ρ j ∧ j < ρ.length := by
      rcases he with h | h | h | h <;> exact (in' h).elim (fun h => by cases h) fun ⟨z, h⟩ => ⟨⟨e, by simp [h]⟩, z⟩
    simp only [if_pos this.2] at ha
    by_cases zk : k < ρ.length
    · simp only [if_pos zk] at hk
      exact S.sep j k a nj this.1 ha hk
    · simp only [if_neg zk] at hk
      simp at hk
  · by_cases z : j < ρ.length
    · simp only [if_pos z]; exact S.kp p hp j
    · simp only [if_neg z]; simp
theorem EnvOk.pushNos {g : Gh} {ρ : Env} {σ : L2.St} (E : EnvOk g F H ρ σ) : ∀ n, EnvOk g F H (ρ ++ List.replicate n .no) (σ ++ List.replicate n none)
  | 0 => by simpa using E
  | n + 1 => by
    have q := (E.pushNos n).pushNo
    rw [List.append_assoc, List.append_assoc] at q
    rw [List.replicate_succ', List.replicate_succ']
    exact q
theorem Own.fpEq {v : V} {d : D} {A B : List Addr} (o : Own K mg F H v d A) (q : Own K mg F H v d B) : A = B := by
  cases o with
  | lst => cases q; rfl
  | dic => cases q; rfl
  | ins => cases q; rfl
  | deal fa fl h hl =>
    cases q with
    | deal fa' fl' h' hl' =>
      rw [h] at h'
      cases h'
      rfl
  | dealA => cases q; rfl
/-- what is held stands at A -/
def HeldA (K : PySem.W.Frag) (mg : Str → Option Value) (F H : Hp) (A : List Addr) (ρ : Env) (σ : L2.St) : Prop := ∀ (i : Nat) (d : D), (ρ[i]? = some (.own d) ∨ ρ[i]? = some (.io d) ∨ ρ[i]? = some (.lown d) ∨ ρ[i]? = some (.lio d)) → ∃ v, σ[i]? = some (some v) ∧ Own K mg F H v d A
theorem HeldA.fp {g : Gh} {ρ : Env} {σ : L2.St} {fp : Nat → List Addr} (h : HeldA g.K g.mg F H A ρ σ) (S : Slots g F H ρ σ fp) {i : Nat} (hi : Holds ρ i) : fp i = A := by
  obtain ⟨d, hd⟩ := hi
  obtain ⟨v, hv, o⟩ := h i d hd
  have q := S.ok i
  rw [hv] at q
  rcases hd with e | e | e | e <;> (rw [e] at q; obtain ⟨x, hx, ox, _⟩ := q; cases hx; exact ox.fpEq o)
theorem HeldA.app {ρ : Env} {σ : L2.St} {s : Slot} {w : Option V} (h : HeldA K mg F H A ρ σ) (hl : ρ.length = σ.length) (nh : ∀ d, s ≠ .own d ∧ s ≠ .io d ∧ s ≠ .lown d ∧ s ≠ .lio d) : HeldA K mg F H A (ρ ++ [s]) (σ ++ [w]) := by
  intro i d hd
  have li : i < ρ.length := by
    have h1 : i < (ρ ++ [s]).length := by rcases hd with h | h | h | h <;> exact (List.getElem?_eq_some_iff.mp h).1
    have h2 : i ≠ ρ.length := fun z => by
      subst z
      rw [List.getElem?_append_right (Nat.le_refl _), Nat.sub_self] at hd
      obtain ⟨n1, n2, n3, n4⟩ := nh d
      rcases hd with h | h | h | h
      · exact n1 (Option.some.inj h)
      · exact n2 (Option.some.inj h)
      · exact n3 (Option.some.inj h)
      · exact n4 (Option.some.inj h)
    simp at h1; omega
  rw [List.getElem?_append_left li] at hd
  rw [List.getElem?_append_left (hl ▸ li)]
  exact h i d hd
theorem nhVal {d : D} : ∀ e, Slot.val d ≠ .own e ∧ Slot.val d ≠ .io e ∧ Slot.val d ≠ .lown e ∧ Slot.val d ≠ .lio e := fun e => ⟨fun z => (by cases z), fun z => (by cases z), fun z => (by cases z), fun z => (by cases z)⟩
theorem nhLent {d : D} : ∀ e, Slot.lent d ≠ .own e ∧ Slot.lent d ≠ .io e ∧ Slot.lent d ≠ .lown e ∧ Slot.lent d ≠ .lio e := fun e => ⟨fun z => (by cases z), fun z => (by cases z), fun z => (by cases z), fun z => (by cases z)⟩
theorem EnvOk.pushVL {md : List Bool} {vs : List V} {ds : List D} (h : ArgsVL K mg F H A md vs ds) : ∀ {g : Gh} {ρ : Env} {σ : L2.St}, g.K = K → g.mg = mg → g.KP = [] → EnvOk g F H ρ σ → HeldA K mg F H A ρ σ →
    ∃ l, EnvOk { g with LK := l } F H (ρ ++ slotsVL md ds) (σ ++ vs.map some) := by
  induction h with
  | nil => exact fun {g ρ σ} _ _ _ E _ => ⟨g.LK, by simpa [slotsVL] using E⟩
  | val r t ih =>
    intro g ρ σ hK hm hk E hA
    rename_i v d md vs ds
    have E1 := E.push (s := .val d) (v := v) (B := []) (l := g.LK) ⟨rfl, v, rfl, by rw [← hK, ← hm] at r; exact r⟩ nhVal (.inl ⟨rfl, rfl⟩) (fun _ _ _ _ _ _ z => by simp at z) (fun _ _ z => by simp at z)
    obtain ⟨l, E2⟩ := ih (g := { g with LK := g.LK }) hK hm hk E1 (hA.app E.len nhVal)
    exact ⟨l, by simpa [slotsVL] using E2⟩
  | rep r t ih =>
    intro g ρ σ hK hm hk E hA
    rename_i v d md vs ds
    have E1 := E.push (s := .lent d) (v := v) (B := []) (l := (ρ.length, v, .lent d) :: g.LK) ⟨v, rfl, .inl ⟨rfl, by rw [← hK, ← hm] at r; exact r⟩⟩ nhLent (.inr ⟨rfl, rfl⟩) (fun _ _ _ _ _ _ z => by simp at z) (fun _ _ z => by simp at z)
    obtain ⟨l, E2⟩ := ih (g := { g with LK := (ρ.length, v, .lent d) :: g.LK }) hK hm hk E1 (hA.app E.len nhLent)
    exact ⟨l, by simpa [slotsVL] using E2⟩
  | lent o dj t ih =>
    intro g ρ σ hK hm hk E hA
    rename_i v d B md vs ds
    have hA' : HeldA g.K g.mg F H A ρ σ := by rw [hK, hm]; exact hA
    have E1 := E.push (s := .lent d) (v := v) (B := B) (l := (ρ.length, v, .lent d) :: g.LK) ⟨v, rfl, .inr (by rw [← hK, ← hm] at o; exact o)⟩ nhLent (.inr ⟨rfl, rfl⟩) (fun fp S i a hi ha hb => dj a hb (by rw [← hA'.fp S hi]; exact ha)) (fun p hp _ => by rw [hk] at hp; cases hp)
    obtain ⟨l, E2⟩ := ih (g := { g with LK := (ρ.length, v, .lent d) :: g.LK }) hK hm hk E1 (hA.app E.len nhLent)
    exact ⟨l, by simpa [slotsVL] using E2⟩
theorem slots_nil {ρ : Env} {i : Nat} (h : ρ = []) : ρ[i]? = none := by rw [h]; rfl
theorem EnvOk.empty (s : Same F H) {g : Gh} (hF : g.F0 = F) (hH : g.H0 = H) (hI : g.IO = []) (hL : g.LK = []) (hK : g.KP = []) : EnvOk g F H [] [] := by
  have na : ∀ a, ¬ g.at a := fun a ⟨p, hp, _⟩ => by rw [hI] at hp; cases hp
  refine ⟨s, by rw [hF]; exact .refl _, fun a o h => .inl (by rw [hF]; exact h), fun a o h _ => by rw [← hH]; exact h, fun a z => (na a z).elim, fun {a} z => (na a z).elim, (fun i x t h => by rw [hL] at h; cases h), fun i t h => ?_, (fun p h => by rw [hK] at h; cases h), rfl, fun _ => [], fun i => rfl, fun i j a _ _ h => by simp at h, fun _ _ _ => by simp⟩
  obtain ⟨e, _⟩ := h
  simp at e
/-- a def's frame at its entry -/
theorem entryV {md : List Bool} {vs : List V} {ds : List D} (s : Same F H) (h : ArgsVL K mg F H [] md vs ds) (n : Nat) : ∃ l, EnvOk ⟨K, mg, H, F, [], l, []⟩ F H (slotsVL md ds ++ List.replicate n .no) (vs.map some ++ List.replicate n none) := by
  have E0 : EnvOk ⟨K, mg, H, F, [], [], []⟩ F H [] [] := .empty s rfl rfl rfl rfl rfl
  obtain ⟨l, E1⟩ := E0.pushVL (g := ⟨K, mg, H, F, [], [], []⟩) h rfl rfl rfl fun i d z => by
    rcases z with z | z | z | z <;> simp at z
  exact ⟨l, by simpa using E1.pushNos n⟩
theorem entryI {md : List Bool} {v0 : V} {d0 : D} {vs : List V} {ds : List D} (s : Same F H) (o : Own K mg F H v0 d0 A) (h : ArgsVL K mg F H A md vs ds) (n : Nat) : ∃ l, EnvOk ⟨K, mg, H, F, [(0, v0, A)], l, []⟩ F H ((.io d0 :: slotsVL md ds) ++ List.replicate n .no) ((v0 :: vs).map some ++ List.replicate n none) := by
  have at' : ∀ a, Gh.at ⟨K, mg, H, F, [(0, v0, A)], [], []⟩ a → a ∈ A := fun a ⟨p, hp, ha⟩ => by
    rcases List.mem_cons.mp hp with e | hp
    · subst e; exact ha
    · cases hp
  have one : ∀ {i : Nat} {t : Slot}, ([Slot.io d0] : Env)[i]? = some t → i = 0 ∧ t = .io d0 := fun {i t} h => by
    cases i with
    | zero => exact ⟨rfl, (Option.some.inj h).symm⟩
    | succ i => simp at h
  have E0 : EnvOk ⟨K, mg, H, F, [(0, v0, A)], [], []⟩ F H [.io d0] [some v0] := by
    refine ⟨s, .refl _, fun a o h => .inl h, fun a o h _ => h, fun a z => o.there a (at' a z), fun {a} z e => ?_, fun i x t h => (by cases h), fun i t h => ?_, fun p h => (by cases h), rfl, fun i => if i = 0 then A else [], fun i => ?_, fun i j a n hi ha hb => ?_, fun p hp => (by cases hp)⟩
    · obtain ⟨_, u, hu⟩ := o.there a (at' a z)
      have e : H a = none := e
      rw [hu] at e; cases e
    · obtain ⟨_, rfl⟩ := one h.1
      cases h.2
    · cases i with
      | zero => exact ⟨v0, rfl, o, List.mem_cons_self⟩
      | succ i => exact rfl
    · have : i = 0 := by
        obtain ⟨d, hd⟩ := hi
        rcases hd with h | h | h | h <;> exact (one h).1
      subst this
      rw [if_neg (Ne.symm n)] at hb
      cases hb
  obtain ⟨l, E1⟩ := E0.pushVL (g := ⟨K, mg, H, F, [(0, v0, A)], [], []⟩) h rfl rfl rfl fun i d z => by
    have : i = 0 ∧ d = d0 := by
      rcases z with z | z | z | z
      · exact absurd (one z).2 (by simp)
      · exact ⟨(one z).1, by have := (one z).2; cases this; rfl⟩
      · exact absurd (one z).2 (by simp)
      · exact absurd (one z).2 (by simp)
    obtain ⟨rfl, rfl⟩ := this
    exact ⟨v0, rfl, o⟩
  exact ⟨l, by simpa using E1.pushNos n⟩
end

/-! ## a def by its body's meaning -/
def outS (ρ : Env) : Option D := match ρ[(0 : Nat)]? with
  | some (.io d) => some d
  | _ => none
/-- what a body makes of its slots -/
def runV (n : Nat) (md : List Bool) (f : SS) (ds : List D) : RF := match f (slotsVL md ds ++ List.replicate n .no) with
  | .nx _ => .ok (false, .non) .non
  | .rt a _ => .ok a .non
  | .exc x _ => .exc x .non
  | _ => .no
def runI (n : Nat) (md : List Bool) (f : SS) : List D → RF
  | d0 :: ds => (match f ((.io d0 :: slotsVL md ds) ++ List.replicate n .no) with
    | .nx ρ => (match outS ρ with
      | some o => .ok (false, .non) o
      | none => .no)
    | .rt a ρ => (match outS ρ with
      | some o => .ok a o
      | none => .no)
    | .exc x ρ => (match outS ρ with
      | some o => .exc x o
      | none => .no)
    | _ => .no)
  | [] => .no
section
variable {P : Program} {w : World} {K : PySem.W.Frag} {mg : Str → Option Value} {base : Heap}
theorem Post.of {g : Gh} {F' H' : Hp} {ρ : Env} {σ : L2.St} {A : List Addr} (E : EnvOk g F' H' ρ σ) (hA : ∀ a, g.at a → a ∈ A) : Post g.F0 g.H0 F' H' A :=
  ⟨E.low, E.sub, E.new, fun a o h ha => E.kept a o h fun z => ha (hA a z)⟩
theorem After.resC {g : Gh} {F' H' : Hp} {ρ : Env} {σ : L2.St} {v : V} {a : Bool × D} (A : After g F' H' ρ σ v a) : ResC g.K g.mg g.H0 F' H' v a := by
  obtain ⟨fr, d⟩ := a
  cases fr with
  | false => exact A.2
  | true =>
    have A : EnvOk g F' H' (ρ ++ [.own d]) (σ ++ [some v]) := A
    obtain ⟨fp, S⟩ := A.fps
    have hl : ρ.length = σ.length := by simpa using A.len
    have q := S.ok ρ.length
    rw [show (ρ ++ [Slot.own d])[ρ.length]? = some (.own d) by simp, show (σ ++ [some v])[ρ.length]? = some (some v) by rw [hl]; simp] at q
    obtain ⟨x, e, o, h0⟩ := q
    cases e
    exact ⟨_, o, h0⟩
theorem ExcV.toC {g : Gh} {F : Hp} {cls : Value} {dd : Option Addr} {x : D} (h : ExcV g F cls dd x) : ExcC g.K g.mg F cls dd x := by
  cases x <;> exact h
theorem outS_get {g : Gh} {F' H' : Hp} {ρ : Env} {σ : L2.St} {o : D} (E : EnvOk g F' H' ρ σ) (h : outS ρ = some o) {v0 : V} {A : List Addr} (hI : g.IO = [(0, v0, A)]) : Own g.K g.mg F' H' v0 o A := by
  unfold outS at h
  cases e : ρ[(0 : Nat)]? with
  | none => rw [e] at h; cases h
  | some s =>
    rw [e] at h
    cases s with
    | io d =>
      cases h
      obtain ⟨fp, S⟩ := E.fps
      have q := S.ok 0
      rw [e] at q
      obtain ⟨x, hx, ox, hi⟩ := q
      rw [hI] at hi
      rcases List.mem_cons.mp hi with z | z
      · cases z; exact ox
      · cases z
    | _ => cases h
theorem fnV {x qual : Str} {st : Stmt} {f : Addr} {fd : FuncData} {N ps : List Str} {k : Nat} {md : List Bool} {fb : SS} (F : Fun K x qual st f fd) (S : FnScope N ps (defScope st)) (hm : md.length = ps.length)
    (hb : ∀ (cdv : Value) (A : Around) (outer : List PySem.Env) (s : Shared) (H : Hp) (E : XK) (g : Gh), Ctx (cxOf (L2.CX P w) P w K mg base N qual (defScope st) f cdv A outer s H E) k (fun cls d _ H => E cls d H) → Gok (cxOf (L2.CX P w) P w K mg base N qual (defScope st) f cdv A outer s H E) g →
      PSs (cxOf (L2.CX P w) P w K mg base N qual (defScope st) f cdv A outer s H E) (defBody st) (tS g (fun cls d _ H => E cls d H) fb)) : Fn P w K mg base (k + 1) f fd ps (spV K mg md (runV (N.length - ps.length) md fb)) := by
  refine fnRule F S (fun vs H Q E h => ?_) fun cdv A outer s H vs Q E hG hr h => ?_
  · obtain ⟨F0, ds, _, h, _⟩ := h
    exact h.len.1.trans hm
  · obtain ⟨F0, ds, sub, ha, h⟩ := h
    have hlen := ha.len
    obtain ⟨l, E0⟩ := entryV sub ha (N.length - ps.length)
    refine ⟨_, hb cdv A outer s H E ⟨K, mg, H, F0, [], l, []⟩ ⟨rfl, hG, hr, passes_of rfl, takes_of rfl rfl rfl rfl, S.nd⟩ ⟨rfl, rfl⟩, F0, slotsVL md ds ++ List.replicate (N.length - ps.length) .no, ?_, ?_⟩
    · have : L2.start N vs = vs.map some ++ List.replicate (N.length - ps.length) none := by unfold L2.start; rw [hlen.1, hm]
      rw [this]
      exact E0
    · have noA : ∀ a, Gh.at ⟨K, mg, H, F0, [], l, []⟩ a → a ∈ ([] : List Addr) := fun a ⟨p, hp, _⟩ => by cases hp
      unfold runV at h
      cases e : fb (slotsVL md ds ++ List.replicate (N.length - ps.length) .no) with
      | nx ρ' => rw [e] at h; exact fun σ' F' H' E' u => h .non H' F' (Post.of E' noA) .non
      | rt a ρ' => rw [e] at h; exact fun v σ' F' H' A' u => h v H' F' (Post.of A'.env noA) A'.resC
      | bk ρ' => rw [e] at h; exact h.elim
      | ct ρ' => rw [e] at h; exact h.elim
      | exc x ρ' => rw [e] at h; exact fun cls dd σ' F' H' E' u q => h cls dd H' F' (Post.of E' noA) q.toC
      | no => rw [e] at h; exact h.elim
theorem fnI {x qual : Str} {st : Stmt} {f : Addr} {fd : FuncData} {N ps : List Str} {k : Nat} {md : List Bool} {fb : SS} (F : Fun K x qual st f fd) (S : FnScope N ps (defScope st)) (hm : md.length + 1 = ps.length)
    (hb : ∀ (cdv : Value) (A : Around) (outer : List PySem.Env) (s : Shared) (H : Hp) (E : XK) (g : Gh), Ctx (cxOf (L2.CX P w) P w K mg base N qual (defScope st) f cdv A outer s H E) k (fun cls d _ H => E cls d H) → Gok (cxOf (L2.CX P w) P w K mg base N qual (defScope st) f cdv A outer s H E) g →
      PSs (cxOf (L2.CX P w) P w K mg base N qual (defScope st) f cdv A outer s H E) (defBody st) (tS g (fun cls d _ H => E cls d H) fb)) : Fn P w K mg base (k + 1) f fd ps (spI K mg md (runI (N.length - ps.length) md fb)) := by
  refine fnRule F S (fun vs H Q E h => ?_) fun cdv A outer s H vs Q E hG hr h => ?_
  · obtain ⟨F0, v0, d0, A, vs', ds, rfl, _, _, h, _⟩ := h
    rw [← hm, List.length_cons, h.len.1]
  · obtain ⟨F0, v0, d0, B, vs', ds, rfl, sub, own, ha, h⟩ := h
    have hlen := ha.len
    obtain ⟨l, E0⟩ := entryI sub own ha (N.length - ps.length)
    refine ⟨_, hb cdv A outer s H E ⟨K, mg, H, F0, [(0, v0, B)], l, []⟩ ⟨rfl, hG, hr, passes_of rfl, takes_of rfl rfl rfl rfl, S.nd⟩ ⟨rfl, rfl⟩, F0, (.io d0 :: slotsVL md ds) ++ List.replicate (N.length - ps.length) .no, ?_, ?_⟩
    · have : L2.start N (v0 :: vs') = (v0 :: vs').map some ++ List.replicate (N.length - ps.length) none := by
        unfold L2.start
        rw [List.length_cons, hlen.1, hm]
      rw [this]
      exact E0
    · have inA : ∀ a, Gh.at ⟨K, mg, H, F0, [(0, v0, B)], l, []⟩ a → a ∈ B := fun a ⟨p, hp, ha⟩ => by
        rcases List.mem_cons.mp hp with z | z
        · subst z; exact ha
        · cases z
      unfold runI at h
      cases e : fb ((.io d0 :: slotsVL md ds) ++ List.replicate (N.length - ps.length) .no) with
      | nx ρ' =>
        simp only [e] at h
        cases e2 : outS ρ' with
        | none => rw [e2] at h; exact h.elim
        | some o => rw [e2] at h; exact fun σ' F' H' E' u => h .non H' F' (Post.of E' inA) (outS_get E' e2 rfl) .non
      | rt a ρ' =>
        simp only [e] at h
        cases e2 : outS ρ' with
        | none => rw [e2] at h; exact h.elim
        | some o => rw [e2] at h; exact fun v σ' F' H' A' u => h v H' F' (Post.of A'.env inA) (outS_get A'.env e2 rfl) A'.resC
      | bk ρ' => simp only [e] at h
      | ct ρ' => simp only [e] at h
      | exc x ρ' =>
        simp only [e] at h
        cases e2 : outS ρ' with
        | none => rw [e2] at h; exact h.elim
        | some o => rw [e2] at h; exact fun cls dd σ' F' H' E' u q => h cls dd H' F' (Post.of E' inA) (outS_get E' e2 rfl) q.toC
      | no => simp only [e] at h
end
end J

namespace J
open PySem PySem.Spec PyProof.Rows L2

/-! ## calls -/
section
variable {X : Cx} {k : Nat} {f : Addr} {fd : FuncData} {ps : List Str} {sp : Sp} {W : WX} {x : Str} {p pos : Pos} {e : Expr} {es : List Expr} {t : TA}
theorem run_Fn {pins : List (Addr × Obj)} {σ : L2.St} {H : Hp} {s : Shared} {Q : VK} {us : List Value} {vs : List V} {E : XK} (F : Fn X.prog X.w X.K X.mg X.base k f fd ps sp) (hG : X.A.guards = some []) (hr : Room k X.A) (hb : Binds X.K fd ps []) (hx : PassesAt (L2.CX X.prog X.w) X σ E)
    (I : Inv X pins σ H s) (r : Vals vs us) (h : sp vs H Q E) : wpAny (model X.prog X.w) X.A (call (.ref f) us) (EP X pins σ Q) X.xe s := by
  have hl : (us ++ []).length = ps.length := by
    rw [List.append_nil, ← r.length]
    exact F.len _ _ _ _ h
  have hbd := hb s us I.kIn hl
  rw [List.append_nil] at hbd
  refine wpAny_call (codeAny_mono (F.run X.A X.stack s H ⟨us, []⟩ us vs Q E hG hr I.env0 hbd r h) fun r s' hq => ?_)
  match r, hq with
  | .error e, hq => exact hx pins H s e s' I hq
  | .ok (.ret u), hq => exact I.after hq
theorem pe_callG (F : Fn X.prog X.w X.K X.mg X.base k f fd ps sp) (c : Ctx X k W) (hg : Gl X x) (hm : X.mg x = some (.ref f)) (hk : PySem.W.keepIn X.K (.ref f) = true) (hb : Binds X.K fd ps [])
    (ha : PA X (e :: es) t) (hdb : (x == ("__debug__" : Str)) = false := by decide) (he : starEach (e :: es) X.env = (false, eval e X.env) :: starEach es X.env := by rfl) (hpl : (backTo pos (starEach es X.env)).any (·.1) = false := by rfl) :
    PE X (.Call (.Name x p) (e :: es) [] pos) (fun σ H Q => t σ H fun vs H1 => sp vs H1 Q (WE W σ)) := by
  constructor
  intro pins s σ H Q I h
  refine wpAny_Call_Name_kw (ld_glob I hg hm (PySem.W.callWith_K (h₀ := X.base) I.ok.mod.kin hk (thn (ha.run pos pins s σ H _ I h) fun us s1 hv => ?_) he hpl) hdb)
  obtain ⟨vs, H1, I1, r, q⟩ := hv
  exact ⟨I1.kIn, run_Fn F c.grd c.room hb (passAt c.takes σ) I1 r q⟩
theorem pe_callG0 (F : Fn X.prog X.w X.K X.mg X.base k f fd ps sp) (c : Ctx X k W) (hg : Gl X x) (hm : X.mg x = some (.ref f)) (hk : PySem.W.keepIn X.K (.ref f) = true) (hb : Binds X.K fd ps [])
    (hdb : (x == ("__debug__" : Str)) = false := by decide) :
    PE X (.Call (.Name x p) [] [] pos) (fun σ H Q => sp [] H Q (WE W σ)) := by
  constructor
  intro pins s σ H Q I h
  exact wpAny_Call_Name_kw (ld_glob I hg hm (PySem.W.callWith_K0 I.kIn hk (run_Fn (us := []) F c.grd c.room hb (passAt c.takes σ) I .nil h)) hdb)
end

def argsVL : List Bool → Env → List Arg → Option (List D)
  | [], _, [] => some []
  | false :: md, ρ, .d d :: as => (argsVL md ρ as).map fun ds => d :: ds
  | true :: md, ρ, a :: as => (deref ρ a).bind fun d => (argsVL md ρ as).map fun ds => d :: ds
  | _, _, _ => none
def sCallV (md : List Bool) (m : List D → RF) (l : List SArg) : SE := fun ρ => (evArgs l ρ).bind fun as ρ1 => match argsVL md ρ1 as with
  | some ds => (match m ds with
    | .ok a _ => .ok a ρ1
    | .exc x _ => .exc x ρ1
    | .no => .no)
  | none => .no
/-- none of the arguments is the slot i -/
def apart (i : Nat) (as : List Arg) : Bool := as.all fun a => match a with
  | .p j => j != i
  | .d _ => true
def ioC (kd : D → Slot) (i : Nat) (ρ1 : Env) (r : RF) : R (Bool × D) := match r with
  | .ok a o => .ok a (ρ1.set i (kd o))
  | .exc x o => .exc x (ρ1.set i (kd o))
  | .no => .no
def sCallI (md : List Bool) (m : List D → RF) (i : Nat) (l : List SArg) : SE := fun ρ => match getP ρ i with
  | none => .no
  | some _ => (evArgs l ρ).bind fun as ρ1 => if apart i as = true then (match argsVL md ρ1 as with
    | none => .no
    | some ds => (match ρ1[i]? with
      | some (.own d0) => ioC .own i ρ1 (m (d0 :: ds))
      | some (.io d0) => ioC .io i ρ1 (m (d0 :: ds))
      | _ => .no)) else .no
section
variable {g : Gh} {F H F' H' : Hp} {ρ : Env} {σ : L2.St} {i : Nat} {v : V} {d : D} {A : List Addr}
theorem args_VL {md : List Bool} {as : List Arg} {vs : List V} {ds : List D} (E : EnvOk g F H ρ σ) (h : ArgVs g F σ vs as) (e : argsVL md ρ as = some ds) (dj : ∀ j x B, Arg.p j ∈ as → σ[j]? = some (some x) → (∀ d, getP ρ j = some d → Own g.K g.mg F H x d B → ∀ a ∈ B, a ∉ A)) : ArgsVL g.K g.mg F H A md vs ds := by
  induction h generalizing md ds with
  | nil =>
    cases md with
    | nil => cases e; exact .nil
    | cons b md => cases b <;> cases e
  | cons hv t ih =>
    rename_i v a vs as
    have ih' : ∀ {md ds}, argsVL md ρ as = some ds → ArgsVL g.K g.mg F H A md vs ds := fun {md ds} e => ih e fun j x B hj => dj j x B (List.mem_cons_of_mem _ hj)
    cases md with
    | nil => cases e
    | cons b md =>
      cases b with
      | false =>
        cases a with
        | p j => cases e
        | d d0 =>
          rw [argsVL] at e
          obtain ⟨ds', e1, rfl⟩ := Option.map_eq_some_iff.mp e
          exact .val hv (ih' e1)
      | true =>
        rw [argsVL] at e
        cases e0 : deref ρ a with
        | none => rw [e0] at e; cases e
        | some d0 =>
          rw [e0] at e
          obtain ⟨ds', e1, rfl⟩ := Option.map_eq_some_iff.mp e
          rcases deref_peek E hv e0 with r | ⟨B, o⟩
          · exact .rep r (ih' e1)
          · cases a with
            | d d1 =>
              cases e0
              have r : Rep g.K g.mg F v d0 := hv
              exact .rep r (ih' e1)
            | p j => exact .lent o (fun a ha => dj j v B List.mem_cons_self hv d0 e0 o a ha) (ih' e1)
theorem Post.toNew (p : Post F H F' H' []) : New F H F' H' := ⟨p.uF, fun a o h => p.kept a o h (by simp), p.sub, p.new⟩
theorem ExcC.toV {cls : Value} {dd : Option Addr} {x : D} (h : ExcC g.K g.mg F cls dd x) : ExcV g F cls dd x := by
  cases x <;> exact h
theorem callV_run {W : WX} {md : List Bool} {m : List D → RF} {l : List SArg} {Q : VK} (h : tE g W (sCallV md m l) σ H Q) : tArgs g W l σ H (fun vs H1 => spV g.K g.mg md m vs H1 Q (WE W σ)) := by
  obtain ⟨F, ρ, E, q⟩ := h
  refine args_run E ((Goes.bind q).imp fun as ρ1 F1 H1 u q E1 vs hvs => ?_)
  cases e : argsVL md ρ1 as with
  | none => rw [e] at q; exact q.elim
  | some ds =>
    rw [e] at q
    refine ⟨F1, ds, E1.sub, args_VL E1 hvs e (fun j x B _ _ d _ _ a _ => by simp), ?_⟩
    cases e2 : m ds with
    | no => simp only [e2] at q; exact q.elim
    | ok a o =>
      simp only [e2] at q
      intro v H2 F2 p r
      refine q F2 H2 p.uF v (E1.after p.toNew ?_)
      obtain ⟨fr, d⟩ := a
      cases fr <;> exact r
    | exc x o =>
      simp only [e2] at q
      intro cls dd H2 F2 p r
      exact q cls dd F2 H2 (E1.ext p.toNew) p.uF r.toV

/-- what a call has made of the slot i -/
theorem EnvOk.chg {s s' : Slot} (E : EnvOk g F H ρ σ) (hi : ρ[i]? = some s) (hs : (s = .own d ∧ ∃ o, s' = .own o) ∨ (s = .io d ∧ ∃ o, s' = .io o)) (p : ∃ fp, Slots g F H ρ σ fp ∧ Post F H F' H' (fp i) ∧ ∀ x, σ[i]? = some (some x) → ∀ o, (s' = .own o ∨ s' = .io o) → Own g.K g.mg F' H' x o (fp i)) :
    EnvOk g F' H' (ρ.set i s') σ ∧ ∃ fp, Slots g F' H' (ρ.set i s') σ fp ∧ ∀ j a, a ∈ fp j → ∃ u, H a = some u := by
  obtain ⟨fp, S, P, own⟩ := p
  have so : s.open = true := by rcases hs with ⟨rfl, _⟩ | ⟨rfl, _⟩ <;> rfl
  have so' : s'.open = true := by rcases hs with ⟨_, _, rfl⟩ | ⟨_, _, rfl⟩ <;> rfl
  have hh : Holds ρ i := by rcases hs with ⟨rfl, _⟩ | ⟨rfl, _⟩ <;> exact ⟨d, by simp [hi]⟩
  have si := S.ok i
  rw [hi] at si
  obtain ⟨x, hx⟩ : ∃ x, σ[i]? = some (some x) := by
    rcases hs with ⟨rfl, _⟩ | ⟨rfl, _⟩
    · obtain ⟨x, h, _⟩ := si; exact ⟨x, h⟩
    · obtain ⟨x, h, _⟩ := si; exact ⟨x, h⟩
  have nf : ∀ a, F a = none → (∃ u, H a = some u) → F' a = none := fun a f ⟨u, h⟩ => by
    cases q : F' a with
    | none => rfl
    | some o =>
      rcases P.new a o q with z | z
      · rw [f] at z; cases z
      · rw [h] at z; cases z
  have fpi : ∀ a ∈ fp i, g.H0 a = none ∨ g.at a := fun a ha => by
    rcases hs with ⟨rfl, _⟩ | ⟨rfl, _⟩
    · obtain ⟨_, _, _, h0⟩ := si; exact .inl (h0 a ha)
    · obtain ⟨_, _, _, hI⟩ := si; exact .inr ⟨_, hI, ha⟩
  have ownI : ∀ o, (s' = .own o ∨ s' = .io o) → Own g.K g.mg F' H' x o (fp i) := own x hx
  obtain ⟨o, ho⟩ : ∃ o, s' = .own o ∨ s' = .io o := by rcases hs with ⟨_, o, rfl⟩ | ⟨_, o, rfl⟩ <;> exact ⟨o, by simp⟩
  have hσ : σ.set i (some x) = σ := set_same hx
  have S' : Slots g F' H' (ρ.set i s') (σ.set i (some x)) (fun j => if j = i then fp i else fp j) := by
    refine S.other (E.lt hi) E.len ?_ (fun j nj => ?_) (fun j a nj ha hb => S.sep i j a (Ne.symm nj) hh ha hb) (fun p hp => S.kp p hp i)
    · rcases hs with ⟨rfl, o, rfl⟩ | ⟨rfl, o, rfl⟩
      · obtain ⟨_, _, _, h0⟩ := si
        exact ⟨x, rfl, own x hx o (.inl rfl), h0⟩
      · obtain ⟨y, hy, _, hI⟩ := si
        rw [hx] at hy; cases hy
        exact ⟨x, rfl, own x hx o (.inr rfl), hI⟩
    · refine (S.ok j).up P.uF (fun a ha => nf a ((S.ok j).fp a ha).1 ((S.ok j).fp a ha).2) fun a ha => ?_
      obtain ⟨_, u, e⟩ := (S.ok j).fp a ha
      rw [e, P.kept a u e fun hb => S.sep i j a (Ne.symm nj) hh hb ha]
  rw [hσ] at S'
  have there : ∀ j a, a ∈ (fun j => if j = i then fp i else fp j) j → ∃ u, H a = some u := fun j a ha => by
    by_cases z : j = i
    · simp only [if_pos z] at ha; exact ((S.ok i).fp a ha).2
    · simp only [if_neg z] at ha; exact ((S.ok j).fp a ha).2
  refine ⟨⟨P.sub, E.low.trans P.uF, fun a o h => ?_, fun a o h z => ?_, fun a z => ?_, E.ioH0, fun j y t hj => ?_, fun j t hj => E.lk2 j t (lockedSet so' hj), fun q hq => ?_, by simpa using E.len, _, S'⟩, _, S', there⟩
  · rcases P.new a o h with q | q
    · exact E.new a o q
    · exact .inr (E.h0 q)
  · exact P.kept a o (E.kept a o h z) fun ha => (fpi a ha).elim (fun q => by rw [h] at q; cases q) z
  · obtain ⟨f, u, h⟩ := E.io a z
    refine ⟨nf a f ⟨u, h⟩, ?_⟩
    by_cases ha : a ∈ fp i
    · exact ((ownI o ho).there a ha).2
    · exact ⟨u, P.kept a u h ha⟩
  · have q := E.lkSet (s := s') (w := some x) hi so j y t hj
    rw [hσ] at q
    exact q
  · obtain ⟨e, f⟩ := E.kpH q hq
    exact ⟨P.kept _ _ e (S.kp q hq i), nf _ f ⟨_, e⟩⟩
theorem EnvOk.pushOwn {fp : Nat → List Addr} {B : List Addr} (E : EnvOk g F H ρ σ) (S : Slots g F H ρ σ fp) (o : Own g.K g.mg F H v d B) (h0 : ∀ a ∈ B, g.H0 a = none) (dj : ∀ j a, a ∈ fp j → a ∉ B) (kp : ∀ p ∈ g.KP, p.1 ∉ B) : EnvOk g F H (ρ ++ [.own d]) (σ ++ [some v]) := by
  have hl := E.len
  refine ⟨E.sub, E.low, E.new, E.kept, E.io, E.ioH0, fun j x t hj => ?_, fun j t hj => E.lk2 j t ?_, E.kpH, by simpa using hl, fun j => if j = ρ.length then B else fp j, fun j => ?_, fun j k a nj hj ha hk => ?_, fun p hp j => ?_⟩
  · obtain ⟨e1, e2⟩ := E.lk j x t hj
    have lj : j < ρ.length := (List.getElem?_eq_some_iff.mp e2.1).1
    exact ⟨by rw [List.getElem?_append_left (hl ▸ lj)]; exact e1, by unfold Locked; rw [List.getElem?_append_left lj]; exact e2⟩
  · have l2 : j ≠ ρ.length := fun z => by
      subst z
      obtain ⟨e2, e3⟩ := hj
      rw [List.getElem?_append_right (Nat.le_refl _), Nat.sub_self] at e2
      have h := Option.some.inj e2
      subst h
      cases e3
    have l1 : j < (ρ ++ [Slot.own d]).length := (List.getElem?_eq_some_iff.mp hj.1).1
    have lj : j < ρ.length := by simp at l1; omega
    unfold Locked at hj ⊢
    rw [List.getElem?_append_left lj] at hj
    exact hj
  · by_cases z : j = ρ.length
    · subst z
      rw [if_pos rfl]
      have e1 : (ρ ++ [Slot.own d])[ρ.length]? = some (.own d) := by simp
      have e2 : (σ ++ [some v])[ρ.length]? = some (some v) := by rw [hl]; simp
      rw [e1, e2]
      exact ⟨v, rfl, o, h0⟩
    · rw [if_neg z]
      have q := S.ok j
      by_cases lj : j < ρ.length
      · rw [List.getElem?_append_left lj, List.getElem?_append_left (hl ▸ lj)]
        exact q
      · have e1 : (ρ ++ [Slot.own d])[j]? = none := List.getElem?_eq_none (by simp; omega)
        have e0 : ρ[j]? = none := List.getElem?_eq_none (by omega)
        rw [e0] at q
        rw [e1]
        exact q
  · by_cases zj : j = ρ.length
    · simp only [if_pos zj] at ha
      rw [if_neg (fun z => nj (zj.trans z.symm))] at hk
      exact dj k a hk ha
    · simp only [if_neg zj] at ha
      by_cases zk : k = ρ.length
      · simp only [if_pos zk] at hk
        exact dj j a ha hk
      · simp only [if_neg zk] at hk
        refine S.sep j k a nj ?_ ha hk
        obtain ⟨e, he⟩ := hj
        have lj : j < ρ.length := by
          have : j < (ρ ++ [Slot.own d]).length := by
            rcases he with h | h | h | h <;> exact (List.getElem?_eq_some_iff.mp h).1
          simp at this; omega
        exact ⟨e, by rw [List.getElem?_append_left lj] at he; exact he⟩
  · by_cases z : j = ρ.length
    · simp only [if_pos z]; exact kp p hp
    · simp only [if_neg z]; exact S.kp p hp j
theorem apart_ne {as : List Arg} (h : apart i as = true) {j : Nat} (hj : Arg.p j ∈ as) : j ≠ i := by
  have := List.all_eq_true.mp h _ hj
  simpa using this
theorem callI_run {W : WX} {md : List Bool} {m : List D → RF} {l : List SArg} {Q : VK} (h : tE g W (sCallI md m i l) σ H Q) : tArgs g W (.p i :: l) σ H (fun vs H1 => spI g.K g.mg md m vs H1 Q (WE W σ)) := by
  obtain ⟨F, ρ, E, q⟩ := h
  unfold sCallI at q
  cases eg : getP ρ i with
  | none => rw [eg] at q; exact q.elim
  | some dd =>
    rw [eg] at q
    obtain ⟨x, hx, _⟩ := E.peek eg
    refine ⟨x, hx, ?_⟩
    refine args_run E ((Goes.bind q).imp fun as ρ1 F1 H1 u q E1 vs hvs => ?_)
    by_cases ap : apart i as = true
    rotate_left
    · rw [if_neg ap] at q; exact q.elim
    rw [if_pos ap] at q
    cases e : argsVL md ρ1 as with
    | none => rw [e] at q; exact q.elim
    | some ds =>
      simp only [e] at q
      cases e0 : ρ1[i]? with
      | none => rw [e0] at q; exact q.elim
      | some s =>
        rw [e0] at q
        -- both kinds of slot
        have key : ∀ (d0 : D) (kd : D → Slot), (kd = .own ∨ kd = .io) → s = kd d0 → Goes g W σ F1 (ioC kd i ρ1 (m (d0 :: ds))) (fun a ρ' F' H' => ∀ v, After g F' H' ρ' σ v a → Q v H') → spI g.K g.mg md m (x :: vs) H1 Q (WE W σ) := by
          intro d0 kd hkd hs q1
          subst hs
          obtain ⟨fp, S⟩ := E1.fps
          have si := S.ok i
          rw [e0, hx] at si
          have ox : Own g.K g.mg F1 H1 x d0 (fp i) := by
            rcases hkd with rfl | rfl
            · obtain ⟨y, h, o, _⟩ := si; cases h; exact o
            · obtain ⟨y, h, o, _⟩ := si; cases h; exact o
          have hh : Holds ρ1 i := by rcases hkd with rfl | rfl <;> exact ⟨d0, by simp [e0]⟩
          have vl : ArgsVL g.K g.mg F1 H1 (fp i) md vs ds := args_VL E1 hvs e fun j y B hj hy d' hd' oB a ha hai => by
            have nj : j ≠ i := apart_ne ap hj
            -- the footprint of the slot j
            have sj := S.ok j
            rw [hy] at sj
            have : B = fp j ∨ fp j = [] ∧ Rep g.K g.mg F1 y d' := by
              unfold getP at hd'
              cases ej : ρ1[j]? with
              | none => rw [ej] at hd'; cases hd'
              | some t =>
                rw [ej] at hd' sj
                cases t with
                | no => cases hd'
                | val e' => cases hd'; obtain ⟨e1, z, hz, r⟩ := sj; cases hz; exact .inr ⟨e1, r⟩
                | own e' => cases hd'; obtain ⟨z, hz, o, _⟩ := sj; cases hz; exact .inl (oB.fpEq o)
                | io e' => cases hd'; obtain ⟨z, hz, o, _⟩ := sj; cases hz; exact .inl (oB.fpEq o)
                | lown e' => cases hd'; obtain ⟨z, hz, o, _⟩ := sj; cases hz; exact .inl (oB.fpEq o)
                | lio e' => cases hd'; obtain ⟨z, hz, o, _⟩ := sj; cases hz; exact .inl (oB.fpEq o)
                | lent e' =>
                  cases hd'
                  obtain ⟨z, hz, o⟩ := sj
                  cases hz
                  rcases o with ⟨e1, r⟩ | o
                  · exact .inr ⟨e1, r⟩
                  · exact .inl (oB.fpEq o)
            rcases this with rfl | ⟨_, r⟩
            · exact S.sep i j a (Ne.symm nj) hh hai ha
            · -- a thing that stands is not owned
              obtain ⟨f, _⟩ := oB.there a ha
              cases oB with
              | lst f' h' r' => simp at ha; subst ha; cases r with | lst h2 _ => rw [f'] at h2; cases h2
              | dic f' h' r' => simp at ha; subst ha; cases r with | dic h2 _ => rw [f'] at h2; cases h2
              | ins f' h' hc' r' => simp at ha; subst ha; cases r with | ins h2 _ _ => rw [f'] at h2; cases h2
              | deal _ _ _ _ => cases r
              | dealA _ _ => cases r
          refine ⟨F1, x, d0, fp i, vs, ds, rfl, E1.sub, ox, vl, ?_⟩
          have hs' : ∀ o, (kd d0 = .own d0 ∧ ∃ o', kd o = .own o') ∨ (kd d0 = .io d0 ∧ ∃ o', kd o = .io o') := fun o => by
            rcases hkd with rfl | rfl
            · exact .inl ⟨rfl, o, rfl⟩
            · exact .inr ⟨rfl, o, rfl⟩
          have inj : ∀ o o', (kd o = .own o' ∨ kd o = .io o') → o' = o := fun o o' z => by
            rcases hkd with rfl | rfl <;> rcases z with z | z <;> (cases z; try rfl)
          cases e2 : m (d0 :: ds) with
          | no => simp only [ioC, e2] at q1; exact q1.elim
          | ok a o =>
            simp only [ioC, e2] at q1
            intro v H2 F2 P own r
            obtain ⟨E2, fp2, S2, th⟩ := E1.chg e0 (hs' o) ⟨fp, S, P, fun y hy o' ho' => by rw [hx] at hy; cases hy; rw [inj o o' ho']; exact own⟩
            refine q1 F2 H2 P.uF v ?_
            obtain ⟨fr, d'⟩ := a
            cases fr with
            | false => exact ⟨E2, r⟩
            | true =>
              obtain ⟨B, oB, hB⟩ := r
              refine E2.pushOwn S2 oB (fun a ha => E1.h0 (hB a ha)) (fun j a ha hb => ?_) fun p hp hb => ?_
              · obtain ⟨u, hu⟩ := th j a ha
                rw [hB a hb] at hu; cases hu
              · have := (E1.kpH p hp).1
                rw [hB _ hb] at this; cases this
          | exc y o =>
            simp only [ioC, e2] at q1
            intro cls dd H2 F2 P own r
            obtain ⟨E2, _⟩ := E1.chg e0 (hs' o) ⟨fp, S, P, fun y hy o' ho' => by rw [hx] at hy; cases hy; rw [inj o o' ho']; exact own⟩
            exact q1 cls dd F2 H2 E2 P.uF r.toV
        cases s with
        | own d0 => exact key d0 .own (.inl rfl) rfl q
        | io d0 => exact key d0 .io (.inr rfl) rfl q
        | _ => exact q.elim
end
section
variable {X : Cx} {g : Gh} {k : Nat} {f : Addr} {fd : FuncData} {ps : List Str} {W : WX} {x : Str} {p pos : Pos} {e : Expr} {es : List Expr} {md : List Bool} {m : List D → RF} {l : List SArg}
theorem jCallV (G : Gok X g) (F : Fn X.prog X.w X.K X.mg X.base k f fd ps (spV X.K X.mg md m)) (c : Ctx X k W) (hg : Gl X x) (hm : X.mg x = some (.ref f)) (hk : PySem.W.keepIn X.K (.ref f) = true) (hb : Binds X.K fd ps [])
    (ha : PA X (e :: es) (tArgs g W l)) (hdb : (x == ("__debug__" : Str)) = false := by decide) (he : starEach (e :: es) X.env = (false, eval e X.env) :: starEach es X.env := by rfl) (hpl : (backTo pos (starEach es X.env)).any (·.1) = false := by rfl) :
    PE X (.Call (.Name x p) (e :: es) [] pos) (tE g W (sCallV md m l)) :=
  PEimp (pe_callG F c hg hm hk hb ha hdb he hpl) fun σ H Q h => by rw [G.K, G.mg]; exact callV_run h
theorem jCallV0 (G : Gok X g) (F : Fn X.prog X.w X.K X.mg X.base k f fd ps (spV X.K X.mg md m)) (c : Ctx X k W) (hg : Gl X x) (hm : X.mg x = some (.ref f)) (hk : PySem.W.keepIn X.K (.ref f) = true) (hb : Binds X.K fd ps [])
    (hdb : (x == ("__debug__" : Str)) = false := by decide) :
    PE X (.Call (.Name x p) [] [] pos) (tE g W (sCallV md m [])) :=
  PEimp (pe_callG0 F c hg hm hk hb hdb) fun σ H Q h => by rw [G.K, G.mg]; exact callV_run h
theorem jCallI {i : Nat} (G : Gok X g) (F : Fn X.prog X.w X.K X.mg X.base k f fd ps (spI X.K X.mg md m)) (c : Ctx X k W) (hg : Gl X x) (hm : X.mg x = some (.ref f)) (hk : PySem.W.keepIn X.K (.ref f) = true) (hb : Binds X.K fd ps [])
    (ha : PA X (e :: es) (tArgs g W (.p i :: l))) (hdb : (x == ("__debug__" : Str)) = false := by decide) (he : starEach (e :: es) X.env = (false, eval e X.env) :: starEach es X.env := by rfl) (hpl : (backTo pos (starEach es X.env)).any (·.1) = false := by rfl) :
    PE X (.Call (.Name x p) (e :: es) [] pos) (tE g W (sCallI md m i l)) :=
  PEimp (pe_callG F c hg hm hk hb ha hdb he hpl) fun σ H Q h => by rw [G.K, G.mg]; exact callI_run h
end
end J

namespace J
open PySem PySem.Spec PyProof.Rows L2

section
variable {g : Gh} {F H F' H' : Hp} {ρ ρ0 : Env} {σ : L2.St} {i j : Nat} {v x : V} {d d0 d1 : D} {a : Addr} {ds : List D}
theorem Slots.kpDrop {p : Addr × HO} {l : List (Addr × HO)} {fp : Nat → List Addr} (S : Slots { g with KP := p :: l } F H ρ σ fp) : Slots { g with KP := l } F H ρ σ fp :=
  ⟨fun i => SlotOk.kp' (g := { g with KP := l }) (l := p :: l) (S.ok i), S.sep, fun q hq i => S.kp q (List.mem_cons_of_mem _ hq) i⟩
theorem EnvOk.kpDrop {p : Addr × HO} {l : List (Addr × HO)} (E : EnvOk { g with KP := p :: l } F H ρ σ) : EnvOk { g with KP := l } F H ρ σ := by
  obtain ⟨fp, S⟩ := E.fps
  exact ⟨E.sub, E.low, E.new, E.kept, E.io, E.ioH0, E.lk, E.lk2, fun q hq => E.kpH q (List.mem_cons_of_mem _ hq), E.len, fp, S.kpDrop⟩
/-- a thing of one cell -/
theorem Own.one {K : PySem.W.Frag} {mg : Str → Option Value} {A : List Addr} (o : Own K mg F H v d A) (hs : d.seals = true) : ∃ a u, v = .ref a ∧ A = [a] ∧ F a = none ∧ H a = some u ∧ ∀ F' H', Same F F' → F' a = none → H' a = some u → Own K mg F' H' v d [a] := by
  cases o with
  | lst f h r => exact ⟨_, _, rfl, rfl, f, h, fun F' H' s f' h' => .lst f' h' (r.up s)⟩
  | dic f h r => exact ⟨_, _, rfl, rfl, f, h, fun F' H' s f' h' => .dic f' h' (r.up s)⟩
  | ins f h hc r => exact ⟨_, _, rfl, rfl, f, h, fun F' H' s f' h' => .ins f' h' hc (r.up s)⟩
  | deal _ _ _ _ => cases hs
  | dealA _ _ => cases hs
/-- a fresh thing is laid aside -/
theorem EnvOk.park (E : EnvOk g F H (ρ ++ [.own d]) (σ ++ [some v])) (hs : d.seals = true) : ∃ a u, v = .ref a ∧ EnvOk { g with KP := (a, u) :: g.KP } F H ρ σ ∧ g.H0 a = none ∧ (∀ p ∈ g.KP, p.1 ≠ a) ∧ ∀ F' H', Same F F' → F' a = none → H' a = some u → Own g.K g.mg F' H' v d [a] := by
  obtain ⟨fp, S⟩ := E.fps
  have hl : ρ.length = σ.length := by simpa using E.len
  have q := S.ok ρ.length
  rw [show (ρ ++ [Slot.own d])[ρ.length]? = some (.own d) by simp, show (σ ++ [some v])[ρ.length]? = some (some v) by rw [hl]; simp] at q
  obtain ⟨x, hx, o, h0⟩ := q
  cases hx
  obtain ⟨a, u, rfl, hA, fa, ha, up⟩ := o.one hs
  have B := E.dropLast
  have hH : Holds (ρ ++ [Slot.own d]) ρ.length := ⟨d, .inl (by simp)⟩
  have na : ∀ i, i ≠ ρ.length → a ∉ fp i := fun i ni hb => S.sep ρ.length i a (Ne.symm ni) hH (by rw [hA]; simp) hb
  refine ⟨a, u, rfl, ⟨B.sub, B.low, B.new, B.kept, B.io, B.ioH0, B.lk, B.lk2, fun p hp => ?_, B.len, fun j => if j < ρ.length then fp j else [], fun j => ?_, fun j k b n hj hb hk => ?_, fun p hp j => ?_⟩, h0 a (by rw [hA]; simp), fun p hp z => S.kp p hp ρ.length (by rw [hA, z]; simp), up⟩
  · rcases List.mem_cons.mp hp with rfl | hp
    · exact ⟨ha, fa⟩
    · exact B.kpH p hp
  · have q := S.ok j
    by_cases z : j < ρ.length
    · rw [List.getElem?_append_left z, List.getElem?_append_left (hl ▸ z)] at q
      simp only [if_pos z]
      exact q.kp
    · rw [List.getElem?_eq_none (by omega)]
      simp only [if_neg z]
      rfl
  · obtain ⟨d', hd⟩ := hj
    have z : j < ρ.length := by
      rcases hd with h | h | h | h <;> exact (List.getElem?_eq_some_iff.mp h).1
    simp only [if_pos z] at hb
    by_cases zk : k < ρ.length
    · simp only [if_pos zk] at hk
      exact S.sep j k b n ⟨d', by rw [List.getElem?_append_left z]; exact hd⟩ hb hk
    · simp only [if_neg zk] at hk
      simp at hk
  · by_cases z : j < ρ.length
    · simp only [if_pos z]
      rcases List.mem_cons.mp hp with rfl | hp
      · exact na j (by omega)
      · exact S.kp p hp j
    · simp only [if_neg z]; simp
theorem EnvOk.unpark {u : HO} {l : List (Addr × HO)} (E : EnvOk { g with KP := (a, u) :: l } F H ρ σ) (h0 : g.H0 a = none) (hl : ∀ p ∈ l, p.1 ≠ a) (o : F a = none → H a = some u → Own g.K g.mg F H v d [a]) : EnvOk { g with KP := l } F H (ρ ++ [.own d]) (σ ++ [some v]) := by
  obtain ⟨fp, S⟩ := E.fps
  obtain ⟨ha, fa⟩ := E.kpH (a, u) List.mem_cons_self
  have na : ∀ i, a ∉ fp i := fun i => S.kp (a, u) List.mem_cons_self i
  exact E.kpDrop.pushOwn (S.kpDrop) (o fa ha) (fun b hb => by simp at hb; subst hb; exact h0) (fun j b hb hc => by simp at hc; subst hc; exact na j hb) fun p hp hb => hl p hp (by simpa using hb)

/-! ## two stores at once -/
def bPar (i j : Nat) (f k : SE) : SS := fun ρ => thenS (f ρ) fun a ρ1 => if (a.1 && !a.2.seals) = true then .no else thenS (k ρ1) fun b ρ2 => match stS j b ρ2 with
  | some ρ3 => (match stS i a ρ3 with
    | some ρ4 => .nx ρ4
    | none => .no)
  | none => .no
theorem kPar {X : Cx} {W : WX} {pos px py pt pt2 : Pos} {kt k2 : Nat} {x y : Str} {e1 e2 : Expr} {f k : SE} (G : Gok X g) (hc : X.calm = true) (nd : X.N.Nodup) (hx : X.N[i]? = some x) (hy : X.N[j]? = some y) (ij : i ≠ j) (lx : X.env.scope.names.lookup x = some .local) (ly : X.env.scope.names.lookup y = some .local)
    (h1 : PE X e1 (tE g W f)) (h2 : ∀ g, Gok X g → PE X e2 (tE g W k)) (hsw : swappedStores [.Tuple [.Name x px, .Name y py] kt pt] (.Tuple [e1, e2] k2 pt2) X.env = pure (some [x, y])) (hsole : swapsWithSole [.Tuple [.Name x px, .Name y py] kt pt] (.Tuple [e1, e2] k2 pt2) pos.line X.env = pure false := by rfl)
    (s1 : starEach [e1, e2] X.env = (false, eval e1 X.env) :: starEach [e2] X.env := by rfl) (s2 : starEach [e2] X.env = (false, eval e2 X.env) :: starEach [] X.env := by rfl) :
    PS X (.Assign [.Tuple [.Name x px, .Name y py] kt pt] (.Tuple [e1, e2] k2 pt2) pos) (tS g W (bPar i j f k)) := by
  refine PSimp (ps_par hc nd hx hy ij lx ly (pa_cons h1 (pa_cons (jex h2) pa_nil s2) s1) hsw hsole) fun E σ H ⟨F, ρ, e, q⟩ => ⟨F, ρ, e, (GoesS.expr q).imp fun c ρ1 F1 H1 u q v A => ?_⟩
  obtain ⟨fr, d⟩ := c
  dsimp only at q
  by_cases hs : (fr && !d.seals) = true
  · rw [if_pos hs] at q; exact q.elim
  rw [if_neg hs] at q
  have nn : (V.non = V.non) = True := by simp
  cases fr with
  | false =>
    obtain ⟨E1, r1⟩ := A
    refine ⟨g, G, F1, ρ1, E1, (GoesS.expr q).imp fun c2 ρ2 F2 H2 u2 q2 w A2 => ⟨v, w, rfl, ?_⟩⟩
    cases e3 : stS j c2 ρ2 with
    | none => rw [e3] at q2; exact q2.elim
    | some ρ3 =>
      rw [e3] at q2
      dsimp only at q2
      have E3 := A2.store e3
      cases e4 : stS i (false, d) ρ3 with
      | none => rw [e4] at q2; exact q2.elim
      | some ρ4 =>
        rw [e4] at q2
        have A4 : After g F2 H2 ρ3 (σ.set j (some w)) v (false, d) := ⟨E3, r1.up u2⟩
        have E4 := A4.store e4
        rw [List.set_comm _ _ (Ne.symm ij)] at E4
        exact q2 _ F2 H2 E4 (.refl _)
  | true =>
    have hd : d.seals = true := by simpa using hs
    have A : EnvOk g F1 H1 (ρ1 ++ [.own d]) (σ ++ [some v]) := A
    obtain ⟨b, u0, rfl, E1, h0, hk, up⟩ := A.park hd
    refine ⟨{ g with KP := (b, u0) :: g.KP }, ⟨G.K, G.mg⟩, F1, ρ1, E1, ?_⟩
    cases e2 : k ρ1 with
    | no => rw [e2] at q; exact q.elim
    | exc x ρ2 =>
      rw [e2] at q
      exact fun cls dd F2 H2 E2 u2 ex => q cls dd σ F2 H2 E2.kpDrop u2 ex
    | ok c2 ρ2 =>
      rw [e2] at q
      intro F2 H2 u2 w A2
      refine ⟨.ref b, w, rfl, ?_⟩
      have q : GoesS g W F1 (match stS j c2 ρ2 with | some ρ3 => (match stS i (true, d) ρ3 with | some ρ4 => RS.nx ρ4 | none => .no) | none => .no) E := q
      cases e3 : stS j c2 ρ2 with
      | none => rw [e3] at q; exact q.elim
      | some ρ3 =>
        rw [e3] at q
        dsimp only at q
        have E3 := A2.store e3
        cases e4 : stS i (true, d) ρ3 with
        | none => rw [e4] at q; exact q.elim
        | some ρ4 =>
          rw [e4] at q
          have E4 := E3.unpark h0 hk fun fa ha => up F2 H2 u2 fa ha
          have A4 : After g F2 H2 ρ3 (σ.set j (some w)) (.ref b) (true, d) := E4
          have E5 := A4.store e4
          rw [List.set_comm _ _ (Ne.symm ij)] at E5
          exact q _ F2 H2 E5 u2

/-! ## an owned thing leaves -/
theorem EnvOk.takeOut (E : EnvOk g F H ρ σ) (h : ρ[i]? = some (.own d)) (hv : σ[i]? = some (some v)) : EnvOk g F H (ρ.set i .no ++ [.own d]) (σ ++ [some v]) := by
  obtain ⟨fp, S⟩ := E.fps
  have hl := E.len
  have hi := E.lt h
  have q := S.ok i
  rw [h, hv] at q
  obtain ⟨x, hx, o, h0⟩ := q
  cases hx
  have E' := E.unset (w := some v) h rfl
  rw [set_same hv] at E'
  have hH : Holds ρ i := ⟨d, .inl h⟩
  have S' : Slots g F H (ρ.set i .no) σ (fun j => if j = i then [] else fp j) := by
    have := S.other (s := .no) (w := some v) (F' := F) (H' := H) (A := []) hi hl rfl (fun j _ => S.ok j) (fun _ _ _ z => by simp at z) fun _ _ z => by simp at z
    rw [set_same hv] at this
    exact this
  refine E'.pushOwn S' o h0 (fun j b hb hc => ?_) fun p hp => S.kp p hp i
  by_cases z : j = i
  · simp only [if_pos z] at hb; simp at hb
  · simp only [if_neg z] at hb
    exact S.sep i j b (Ne.symm z) hH hc hb
theorem kRetM {X : Cx} {W : WX} {p pos : Pos} {y : Str} (he : PE X (.Name y p) (tVar i)) : PS X (.Return (some (.Name y p)) pos) (tS g W (bRet (mvVar i))) := by
  refine PSimp (ps_ret he) fun E σ H ⟨F, ρ, e, q⟩ => ?_
  unfold bRet mvVar at q
  cases hi : ρ[i]? with
  | none => rw [hi] at q; exact q.elim
  | some s =>
    rw [hi] at q
    obtain ⟨fp, S⟩ := e.fps
    have o := S.ok i
    rw [hi] at o
    cases s with
    | val d =>
      obtain ⟨_, x, hx, r⟩ := o
      exact ⟨x, hx, q x σ F H ⟨e, r⟩ (.refl _)⟩
    | own d =>
      obtain ⟨x, hx, r, h0⟩ := o
      exact ⟨x, hx, q x σ F H (e.takeOut hi hx) (.refl _)⟩
    | no => exact q.elim
    | io _ => exact q.elim
    | lent _ => exact q.elim
    | lown _ => exact q.elim
    | lio _ => exact q.elim

/-! ## what changes a thing in its slot -/
def mutS (i : Nat) (d : D) (ρ : Env) : Option Env := match ρ[i]? with
  | some (.own _) => some (ρ.set i (.own d))
  | some (.io _) => some (ρ.set i (.io d))
  | _ => none
theorem EnvOk.poke {u : HO} (E : EnvOk g F H ρ σ) (hv : σ[i]? = some (some (.ref a))) (hd : getP ρ i = some d0) (hs : d0.seals = true) (hm : mutS i d1 ρ = some ρ0) (own' : ∀ H', H' a = some u → Own g.K g.mg F H' (.ref a) d1 [a]) : EnvOk g F (upd H a u) ρ0 σ := by
  obtain ⟨fp, S⟩ := E.fps
  have q := S.ok i
  unfold mutS at hm
  unfold getP at hd
  have key : ∀ (kd : D → Slot), (kd = .own ∨ kd = .io) → ρ[i]? = some (kd d0) → ρ0 = ρ.set i (kd d1) → EnvOk g F (upd H a u) ρ0 σ := by
    intro kd hkd hi e
    subst e
    rw [hi, hv] at q
    have o : Own g.K g.mg F H (.ref a) d0 (fp i) := by
      rcases hkd with rfl | rfl
      · obtain ⟨x, hx, o, _⟩ := q; cases hx; exact o
      · obtain ⟨x, hx, o, _⟩ := q; cases hx; exact o
    obtain ⟨a', u', hva, hA, fa, ha, _⟩ := o.one hs
    cases hva
    have P : Post F H F (upd H a u) (fp i) := ⟨.refl _, fun b w e => by rw [upd_ne (ne_of_none e fa)]; exact E.sub _ _ e, fun _ _ h => .inl h, fun b w e nb => by
      rw [upd_ne (fun z => nb (by rw [hA, z]; simp))]; exact e⟩
    refine (E.chg (d := d0) (F' := F) (H' := upd H a u) (s' := kd d1) hi ?_ ⟨fp, S, P, fun x hx o' ho' => ?_⟩).1
    · rcases hkd with rfl | rfl
      · exact .inl ⟨rfl, d1, rfl⟩
      · exact .inr ⟨rfl, d1, rfl⟩
    · rw [hv] at hx
      cases hx
      have : o' = d1 := by
        rcases hkd with rfl | rfl <;> rcases ho' with z | z <;> (cases z; try rfl)
      subst this
      rw [hA]
      exact own' _ upd_same
  cases hi : ρ[i]? with
  | none => rw [hi] at hm; cases hm
  | some s =>
    rw [hi] at hm hd
    cases s with
    | own d => cases hd; cases hm; exact key .own (.inl rfl) hi rfl
    | io d => cases hd; cases hm; exact key .io (.inr rfl) hi rfl
    | _ => cases hm

def frzA : Arg → Bool
  | .d _ => true
  | .p _ => false
def derefB (ρ : Env) : List Arg → Option (List (Bool × D))
  | [] => some []
  | a :: r => match deref ρ a, derefB ρ r with
    | some d, some ds => some ((frzA a, d) :: ds)
    | _, _ => none
def PeekB (g : Gh) (F H : Hp) (v : V) : Bool × D → Prop
  | (true, d) => Rep g.K g.mg F v d
  | (false, d) => Peek g F H v d
inductive PeekBs (g : Gh) (F H : Hp) : List V → List (Bool × D) → Prop
  | nil : PeekBs g F H [] []
  | cons {v d vs ds} (h : PeekB g F H v d) (t : PeekBs g F H vs ds) : PeekBs g F H (v :: vs) (d :: ds)
theorem derefB_peek {as : List Arg} {vs : List V} {bs : List (Bool × D)} (E : EnvOk g F H ρ σ) (h : ArgVs g F σ vs as) (hd : derefB ρ as = some bs) : PeekBs g F H vs bs := by
  induction h generalizing bs with
  | nil => cases hd; exact .nil
  | cons h t ih =>
    rename_i v a vs as
    simp only [derefB] at hd
    cases e1 : deref ρ a with
    | none => rw [e1] at hd; cases hd
    | some d =>
      cases e2 : derefB ρ as with
      | none => rw [e1, e2] at hd; cases hd
      | some ds' =>
        rw [e1, e2] at hd; cases hd
        refine .cons ?_ (ih e2)
        cases a with
        | d d' => cases e1; exact h
        | p j => exact deref_peek E h e1
/-- a method that changes a list -/
structure MutS (g : Gh) (r : V → List V → Hp → VK → Prop) (op : List D → List (Bool × D) → Option (List D × D)) : Prop where
  run : ∀ F H a xs vs ds bs ds' res Q, Same F H → H a = some (.lst xs) → Reps g.K g.mg F xs ds → PeekBs g F H vs bs → op ds bs = some (ds', res) →
    (∀ xs' y, Reps g.K g.mg F xs' ds' → Rep g.K g.mg F y res → Q y (upd H a (.lst xs'))) → r (.ref a) vs H Q
def isLst : D → Bool
  | .lst _ => true
  | _ => false
def D.items : D → List D
  | .lst l => l
  | _ => []
def sMut (op : List D → List (Bool × D) → Option (List D × D)) (i : Nat) (l : List SArg) : SE := fun ρ => match getP ρ i with
  | some (.lst _) => (evArgs l ρ).bind fun as ρ1 => (match derefB ρ1 as, getP ρ1 i with
    | some bs, some (.lst ds) => (match op ds bs with
      | some (ds', res) => (match mutS i (.lst ds') ρ1 with
        | some ρ2 => .ok (false, res) ρ2
        | none => .no)
      | none => .no)
    | _, _ => .no)
  | _ => .no
theorem mut_run {W : WX} {r : V → List V → Hp → VK → Prop} {op : List D → List (Bool × D) → Option (List D × D)} {l : List SArg} {H : Hp} {Q : VK} (o : MutS g r op) (h : tE g W (sMut op i l) σ H Q) : tBM g.K "list" r (tVar i) (tArgs g W l) σ H Q := by
  obtain ⟨F, ρ, E, q⟩ := h
  unfold sMut at q
  cases e0 : getP ρ i with
  | none => rw [e0] at q; exact q.elim
  | some d0 =>
    rw [e0] at q
    cases d0 with
    | lst ds0 =>
      dsimp only at q
      obtain ⟨x, hx, pk⟩ := E.peek e0
      obtain ⟨a, us, rfl, ha, ra⟩ := pk.lst E.sub
      refine ⟨.ref a, hx, .inl ⟨rfl, us, .inl (.inl ha)⟩, ?_⟩
      refine args_run E ((Goes.bind q).imp fun as ρ1 F1 H1 u q E1 vs hvs => ?_)
      cases e1 : derefB ρ1 as with
      | none => rw [e1] at q; exact q.elim
      | some bs =>
        cases e2 : getP ρ1 i with
        | none => rw [e1, e2] at q; exact q.elim
        | some d1 =>
          rw [e1, e2] at q
          cases d1 with
          | lst ds =>
            dsimp only at q
            cases e3 : op ds bs with
            | none => rw [e3] at q; exact q.elim
            | some w =>
              obtain ⟨ds', res⟩ := w
              rw [e3] at q
              dsimp only at q
              cases e4 : mutS i (.lst ds') ρ1 with
              | none => rw [e4] at q; exact q.elim
              | some ρ2 =>
                rw [e4] at q
                obtain ⟨y, hy, pk⟩ := E1.peek e2
                rw [hx] at hy; cases hy
                obtain ⟨a', us1, hva, ha1, ra1⟩ := pk.lst E1.sub
                cases hva
                -- the slot is owned
                refine o.run F1 H1 a us1 vs ds bs ds' res Q E1.sub ha1 ra1 (derefB_peek E1 hvs e1) e3 fun xs' y rx ry => ?_
                have fa : F1 a = none := by
                  obtain ⟨fp, S⟩ := E1.fps
                  have si := S.ok i
                  unfold mutS at e4
                  unfold getP at e2
                  cases hi : ρ1[i]? with
                  | none => rw [hi] at e4; cases e4
                  | some s =>
                    rw [hi] at e4 e2 si
                    cases s with
                    | own d => obtain ⟨z, hz, o, _⟩ := si; rw [hx] at hz; cases hz; cases e2; obtain ⟨b, _, hb, _, hf, _⟩ := o.one rfl; cases hb; exact hf
                    | io d => obtain ⟨z, hz, o, _⟩ := si; rw [hx] at hz; cases hz; cases e2; obtain ⟨b, _, hb, _, hf, _⟩ := o.one rfl; cases hb; exact hf
                    | _ => cases e4
                have E2 := E1.poke (u := .lst xs') hx e2 rfl e4 fun H' h' => .lst fa h' rx
                exact q F1 _ (.refl _) y ⟨E2, ry⟩
          | _ => exact q.elim
    | _ => exact q.elim
def oAppend (ds : List D) : List (Bool × D) → Option (List D × D)
  | [(true, d)] => if ds.length < sizeLine then some (ds ++ [d], .non) else none
  | _ => none
def oPop (ds : List D) : List (Bool × D) → Option (List D × D)
  | [] => match ds[ds.length - 1]? with
    | some d => some (ds.dropLast, d)
    | none => none
  | _ => none
def oPopAt (ds : List D) : List (Bool × D) → Option (List D × D)
  | [(_, .int i)] => if -(2 ^ 63) ≤ i ∧ i < 2 ^ 63 then (match seqIndex? i ds.length with
    | some k => (match ds[k]? with
      | some d => some (ds.eraseIdx k, d)
      | none => none)
    | none => none) else none
  | _ => none
def oExtend (ds : List D) : List (Bool × D) → Option (List D × D)
  | [(_, .lst es)] => if ds.length + es.length ≤ sizeLine then some (ds ++ es, .non) else none
  | _ => none
theorem PeekB.peek {b : Bool × D} (h : PeekB g F H v b) : Peek g F H v b.2 := by
  obtain ⟨b, d⟩ := b
  cases b with
  | true => exact .inl h
  | false => exact h
theorem ms_append : MutS g rAppend oAppend := ⟨fun F H a xs vs ds bs ds' res Q s h r p e k => by
  unfold oAppend at e
  split at e
  · rename_i d
    cases p with
    | cons p t =>
      cases t
      by_cases z : ds.length < sizeLine
      · rw [if_pos z] at e; cases e
        exact ⟨a, xs, _, rfl, rfl, h, by rw [r.length]; exact z, k _ _ (r.append (.cons p .nil)) .non⟩
      · rw [if_neg z] at e; cases e
  · cases e⟩
theorem Reps.dropLast {K : PySem.W.Frag} {mg : Str → Option Value} {vs : List V} {ds : List D} (r : Reps K mg F vs ds) : Reps K mg F vs.dropLast ds.dropLast := by
  rw [List.dropLast_eq_take, List.dropLast_eq_take, r.length]
  exact r.take _
theorem ms_pop : MutS g rPop oPop := ⟨fun F H a xs vs ds bs ds' res Q s h r p e k => by
  unfold oPop at e
  split at e
  · cases p
    cases e1 : ds[ds.length - 1]? with
    | none => rw [e1] at e; cases e
    | some d =>
      rw [e1] at e; cases e
      obtain ⟨y, hy, ry⟩ := r.get e1
      exact ⟨a, xs, y, rfl, rfl, h, by rw [r.length]; exact hy, k _ _ r.dropLast ry⟩
  · cases e⟩
theorem ms_popAt : MutS g rPopAt oPopAt := ⟨fun F H a xs vs ds bs ds' res Q s h r p e k => by
  unfold oPopAt at e
  split at e
  · rename_i b i
    cases p with
    | cons p t =>
      cases t
      by_cases z : -(2 ^ 63) ≤ i ∧ i < 2 ^ 63
      · rw [if_pos z] at e
        cases e1 : seqIndex? i ds.length with
        | none => rw [e1] at e; cases e
        | some kk =>
          rw [e1] at e
          dsimp only at e
          cases e2 : ds[kk]? with
          | none => rw [e2] at e; cases e
          | some d =>
            rw [e2] at e; cases e
            obtain ⟨y, hy, ry⟩ := r.get e2
            have hv := p.peek.int
            subst hv
            exact ⟨a, xs, i, kk, y, rfl, rfl, h, z.1, z.2, by rw [r.length]; exact e1, hy, k _ _ (r.erase kk) ry⟩
      · rw [if_neg z] at e; cases e
  · cases e⟩
theorem ms_extend : MutS g rExtend oExtend := ⟨fun F H a xs vs ds bs ds' res Q s h r p e k => by
  unfold oExtend at e
  split at e
  · rename_i b es
    cases p with
    | cons p t =>
      cases t
      by_cases z : ds.length + es.length ≤ sizeLine
      · rw [if_pos z] at e; cases e
        obtain ⟨c, us, rfl, hc, rc⟩ := p.peek.lst s
        exact ⟨a, c, xs, us, rfl, rfl, h, hc, by rw [r.length, rc.length]; exact z, k _ _ (r.append rc) .non⟩
      · rw [if_neg z] at e; cases e
  · cases e⟩
end
section
variable {X : Cx} {g : Gh} {W : WX} {i : Nat} {x : Str} {p apos cpos : Pos}
theorem jMut0 {e : Expr} {r : V → List V → Hp → VK → Prop} {op : List D → List (Bool × D) → Option (List D × D)} (G : Gok X g) (o : MutS g r op) (h : PE X e (tBM0 X.K "list" r (tVar i))) : PE X e (tE g W (sMut op i [])) :=
  PEimp h fun σ H Q h => by rw [G.K]; exact mut_run o h
theorem jMut {e : Expr} {r : V → List V → Hp → VK → Prop} {op : List D → List (Bool × D) → Option (List D × D)} {l : List SArg} (G : Gok X g) (o : MutS g r op) (h : PE X e (tBM X.K "list" r (tVar i) (tArgs g W l))) : PE X e (tE g W (sMut op i l)) :=
  PEimp h fun σ H Q h => by rw [G.K]; exact mut_run o h
end
end J

namespace J
open PySem PySem.Spec PyProof.Rows L2

/-! ## the deal: made -/
def D.ints : List D → Option (List Int)
  | [] => some []
  | .int i :: r => (D.ints r).map (i :: ·)
  | _ :: _ => none
theorem ints_eq {l : List D} {gs : List Int} (h : D.ints l = some gs) : l = gs.map D.int := by
  induction l generalizing gs with
  | nil => cases h; rfl
  | cons d r ih =>
    cases d with
    | int i =>
      obtain ⟨g, h2, rfl⟩ := Option.map_eq_some_iff.mp (show (D.ints r).map (i :: ·) = some gs from h)
      rw [ih h2]; rfl
    | _ => cases h
theorem Own.asLst {K : PySem.W.Frag} {mg : Str → Option Value} {F H : Hp} {b : Addr} {d : D} {A : List Addr} (o : Own K mg F H (.ref b) d A) {ds : List D} (e : d = .lst ds) : ∃ vs, H b = some (.lst vs) ∧ Reps K mg F vs ds := by
  cases o with
  | lst f h r => cases e; exact ⟨_, h, r⟩
  | _ => cases e
theorem ints_map : ∀ gs : List Int, D.ints (gs.map D.int) = some gs
  | [] => rfl
  | g :: gs => by show (D.ints (gs.map D.int)).map (g :: ·) = _; rw [ints_map gs]; rfl
theorem reps_ints {K : PySem.W.Frag} {mg : Str → Option Value} {F : Hp} : ∀ {gs : List Int} {vs : List V}, Reps K mg F vs (gs.map D.int) → vs = gs.map V.int
  | [], vs, h => by cases h; rfl
  | g :: gs, vs, h => by
    cases h with
    | cons r t => cases r; rw [reps_ints t]; rfl
section
variable {g : Gh} {F H F' H' : Hp} {ρ ρ0 : Env} {σ : L2.St} {i j : Nat} {v x : V} {d d0 d1 : D} {a : Addr} {ds : List D}
theorem Slots.dropLast {s : Slot} {w : Option V} {fp : Nat → List Addr} (S : Slots g F H (ρ ++ [s]) (σ ++ [w]) fp) (hl : ρ.length = σ.length) : Slots g F H ρ σ (fun j => if j < ρ.length then fp j else []) := by
  refine ⟨fun j => ?_, fun j k a n hj ha hk => ?_, fun p hp j => ?_⟩
  · have q := S.ok j
    by_cases z : j < ρ.length
    · rw [List.getElem?_append_left z, List.getElem?_append_left (hl ▸ z)] at q
      simp only [if_pos z]
      exact q
    · rw [List.getElem?_eq_none (by omega)]
      simp only [if_neg z]
      rfl
  · obtain ⟨d, hd⟩ := hj
    have z : j < ρ.length := by
      rcases hd with h | h | h | h <;> exact (List.getElem?_eq_some_iff.mp h).1
    simp only [if_pos z] at ha
    by_cases zk : k < ρ.length
    · simp only [if_pos zk] at hk
      exact S.sep j k a n ⟨d, by rw [List.getElem?_append_left z]; exact hd⟩ ha hk
    · simp only [if_neg zk] at hk
      simp at hk
  · by_cases z : j < ρ.length
    · simp only [if_pos z]; exact S.kp p hp j
    · simp only [if_neg z]; simp
theorem EnvOk.dealMake {gs : List Int} {s : Int} {l : List (Addr × HO)} (E : EnvOk { g with KP := (a, .dK [(Sum.inr "great", v), (Sum.inr "stirred", .int s)]) :: l } F H (ρ ++ [.own (.lst (gs.map D.int))]) (σ ++ [some v])) (h0 : g.H0 a = none) (hk : ∀ p ∈ l, p.1 ≠ a) : EnvOk { g with KP := l } F H (ρ ++ [.own (.deal gs s)]) (σ ++ [some (.ref a)]) := by
  obtain ⟨fp, S⟩ := E.fps
  have hl : ρ.length = σ.length := by simpa using E.len
  have q := S.ok ρ.length
  rw [show (ρ ++ [Slot.own (.lst (gs.map D.int))])[ρ.length]? = some (.own (.lst (gs.map D.int))) by simp, show (σ ++ [some v])[ρ.length]? = some (some v) by rw [hl]; simp] at q
  obtain ⟨x, hx, o, g0⟩ := q
  cases hx
  obtain ⟨b, u, rfl, hA, fb, hb, up⟩ := o.one rfl
  obtain ⟨ha, fa⟩ := E.kpH (a, _) List.mem_cons_self
  have na : ∀ j, a ∉ fp j := fun j => S.kp (a, _) List.mem_cons_self j
  have hv : H b = some (.lst (gs.map V.int)) := by
    obtain ⟨vs, h, r⟩ := o.asLst rfl
    rw [reps_ints r] at h; exact h
  have hH : Holds (ρ ++ [Slot.own (.lst (gs.map D.int))]) ρ.length := ⟨.lst (gs.map D.int), .inl (by simp)⟩
  refine E.kpDrop.dropLast.pushOwn (S.kpDrop.dropLast hl) (Own.deal fa fb ha hv) (fun c hc => ?_) (fun j c hc hd => ?_) fun p hp hc => ?_
  · simp at hc
    rcases hc with rfl | rfl
    · exact h0
    · exact g0 _ (by rw [hA]; simp)
  · by_cases z : j < ρ.length
    · simp only [if_pos z] at hc
      simp at hd
      rcases hd with rfl | rfl
      · exact na j hc
      · exact S.sep ρ.length j _ (by omega) hH (by rw [hA]; simp) hc
    · simp only [if_neg z] at hc
      simp at hc
  · simp at hc
    rcases hc with e | e
    · exact hk p hp e
    · exact S.kp p (List.mem_cons_of_mem _ hp) ρ.length (by rw [hA, e]; simp)
def sDeal (f k : SE) : SE := fun ρ => (f ρ).bind fun a ρ1 => match a with
  | (true, .lst l) => (match D.ints l with
    | some gs => (k ρ1).bind fun b ρ2 => (match b with
      | (false, .int s) => .ok (true, .deal gs s) ρ2
      | _ => .no)
    | none => .no)
  | _ => .no
theorem jDeal {X : Cx} {W : WX} {pos p1 p2 : Pos} {j1 j2 : Nat} {e1 e2 : Expr} {f k : SE} (G : Gok X g) (h1 : ∀ g, Gok X g → PE X e1 (tE g W f)) (h2 : ∀ g, Gok X g → PE X e2 (tE g W k)) :
    PE X (.Dict [some (.Constant (.str "great") j1 p1), some (.Constant (.str "stirred") j2 p2)] [e1, e2] pos) (tE g W (sDeal f k)) := by
  refine PEimp (pe_disp (pps_cons pe_str (jex h1) (pps_cons pe_str (jex h2) pps_nil)) rfl rfl (by simp) (by simp)) fun σ H Q ⟨F, ρ, E, q⟩ p hp => ?_
  have hk0 : ∀ q ∈ g.KP, q.1 ≠ p := fun q hq z => by
    have := (E.kpH q hq).1
    rw [z, hp] at this; cases this
  have h0 : g.H0 p = none := E.h0 hp
  have E0 := E.kpNew (a := p) (o := .dK []) hp
  have G1 : Gok X { g with KP := (p, HO.dK []) :: g.KP } := ⟨G.K, G.mg⟩
  refine ⟨{ g with KP := (p, HO.dK []) :: g.KP }, G1, F, ρ, E0, ?_⟩
  unfold sDeal at q
  cases e1 : f ρ with
  | no => rw [e1] at q; exact q.elim
  | exc y ρ1 =>
    rw [e1] at q
    exact fun cls dd F1 H1 E1 u ex => q cls dd F1 H1 E1.kpDrop u ex
  | ok c ρ1 =>
    rw [e1] at q
    intro F1 H1 u1 v1 A1
    obtain ⟨fr, d⟩ := c
    have q2 : Goes g W σ F (match ((fr, d) : Bool × D) with | (true, .lst l) => (match D.ints l with | some gs => (k ρ1).bind fun b ρ2 => (match b with | (false, D.int s) => R.ok (true, D.deal gs s) ρ2 | _ => R.no) | none => R.no) | _ => R.no) _ := q
    cases fr with
    | false => exact q2.elim
    | true =>
      cases d with
      | lst l =>
        dsimp only at q2
        cases e2 : D.ints l with
        | none => rw [e2] at q2; exact q2.elim
        | some gs =>
          rw [e2] at q2
          obtain rfl := ints_eq e2
          have q : Goes g W σ F ((k ρ1).bind fun b ρ2 => (match b with | (false, D.int s) => R.ok (true, D.deal gs s) ρ2 | _ => R.no)) _ := q2
          have A1 : EnvOk { g with KP := (p, HO.dK []) :: g.KP } F1 H1 (ρ1 ++ [.own (.lst (gs.map D.int))]) (σ ++ [some v1]) := A1
          obtain ⟨b, u0, rfl, E1, g0, hk, up⟩ := A1.park rfl
          refine ⟨{ g with KP := (b, u0) :: (p, HO.dK []) :: g.KP }, ⟨G.K, G.mg⟩, F1, ρ1, E1, ?_⟩
          cases e3 : k ρ1 with
          | no => rw [e3] at q; exact q.elim
          | exc y ρ2 =>
            rw [e3] at q
            exact fun cls dd F2 H2 E2 u2 ex => q cls dd F2 H2 E2.kpDrop.kpDrop (u1.trans u2) ex
          | ok c2 ρ2 =>
            rw [e3] at q
            intro F2 H2 u2 w A2
            obtain ⟨fr2, d2⟩ := c2
            have q : Goes g W σ F (match ((fr2, d2) : Bool × D) with | (false, D.int s) => R.ok (true, D.deal gs s) ρ2 | _ => R.no) _ := q
            cases fr2 with
            | true => cases d2 <;> exact q.elim
            | false =>
              cases d2 with
              | int s =>
                obtain ⟨E2, r2⟩ := A2
                cases r2
                have E3 := E2.unpark (v := .ref b) (d := .lst (gs.map D.int)) g0 hk fun fa ha => up F2 H2 u2 fa ha
                have hp2 : H2 p = some (.dK []) := (E3.kpH (p, HO.dK []) List.mem_cons_self).1
                refine ⟨hp2, [(Sum.inr "great", .ref b), (Sum.inr "stirred", .int s)], rfl, by simp, ?_⟩
                have E4 := E3.kpStep (o' := .dK [(Sum.inr "great", .ref b), (Sum.inr "stirred", .int s)]) h0 hk0
                have E5 := E4.dealMake (g := g) (l := g.KP) h0 hk0
                exact q F2 _ (u1.trans u2) (.ref p) E5
              | _ => exact q.elim
      | _ => exact q2.elim
end
end J

namespace J
open PySem PySem.Spec PyProof.Rows L2

/-! ## how a meaning is worked out, step by step (what follows a step is a name, so nothing is worked out ahead) -/
def kGet : Option Slot → Option D
  | some (.val d) => some d
  | some (.own d) => some d
  | some (.io d) => some d
  | some (.lent d) => some d
  | some (.lown d) => some d
  | some (.lio d) => some d
  | _ => none
def kOpt {α : Type} (ρ : Env) : Option α → R α
  | some a => .ok a ρ
  | none => .no
def kLis {α : Type} : Option α → Option (List α) → Option (List α)
  | some a, some l => some (a :: l)
  | _, _ => none
def kE (a : Bool × D) (ρ : Env) : R Arg := if (a.1 && !a.2.seals) = true then .no else .ok (.d a.2) ρ
def kP (i : Nat) (ρ : Env) : Option D → R Arg
  | some _ => .ok (.p i) ρ
  | none => .no
def kAs1 {α : Type} (x : α) (xs : List α) (ρ : Env) : R (List α) := .ok (x :: xs) ρ
def kAs (r : List SArg) (x : Arg) (ρ : Env) : R (List Arg) := (evArgs r ρ).bind (kAs1 x)
def kDer (as : List Arg) (ρ : Env) : R (List D) := kOpt ρ (derefs ρ as)
def kOp (sem : List D → Option (Bool × D)) (ds : List D) (ρ : Env) : R (Bool × D) := kOpt ρ (sem ds)
def kDisp (sem : List D → Option (Bool × D)) (as : List Arg) (ρ : Env) : R (Bool × D) := kOpt ρ ((frz as).bind sem)
def kVar (i : Nat) (ρ : Env) : Option Slot → R (Bool × D)
  | some (.val d) => .ok (false, d) ρ
  | some (.own d) => if d.seals = true then .ok (false, d) (ρ.set i (.val d)) else .no
  | _ => .no
def kMv (i : Nat) (ρ : Env) : Option Slot → R (Bool × D)
  | some (.val d) => .ok (false, d) ρ
  | some (.own d) => .ok (true, d) (ρ.set i .no)
  | _ => .no
def kVal (a : Bool × D) (ρ : Env) : R Bool := match a.1, a.2.isB with
  | false, some b => .ok b ρ
  | _, _ => .no
def kAndT (d : ST) (b : Bool) (ρ : Env) : R Bool := if b = true then d ρ else .ok false ρ
def kOrT (d : ST) (b : Bool) (ρ : Env) : R Bool := if b = true then .ok true ρ else d ρ
def kNotT (b : Bool) (ρ : Env) : R Bool := .ok (!b) ρ
def kTru (x : Arg) (ρ : Env) : R Bool := kOpt ρ ((deref ρ x).bind D.truth)
def kAndE (k : SE) (a : Bool × D) (ρ : Env) : R (Bool × D) := match a.1, a.2.isB with
  | false, some b => if b = true then k ρ else .ok (false, .bl false) ρ
  | _, _ => .no
def kOrE (k : SE) (a : Bool × D) (ρ : Env) : R (Bool × D) := match a.1, a.2.isB with
  | false, some b => if b = true then .ok (false, .bl true) ρ else k ρ
  | _, _ => .no
def kNotE (a : Bool × D) (ρ : Env) : R (Bool × D) := match a.1, a.2.isB with
  | false, some b => .ok (false, .bl (!b)) ρ
  | _, _ => .no
def kIfE (f k : SE) (b : Bool) (ρ : Env) : R (Bool × D) := if b = true then f ρ else k ρ
def kIfS (f k : SS) (b : Bool) (ρ : Env) : RS := if b = true then f ρ else k ρ
def kNx : Option Env → RS
  | some ρ => .nx ρ
  | none => .no
def kSetS (i : Nat) (a : Bool × D) (ρ : Env) : RS := kNx (stS i a ρ)
def kExp (a : Bool × D) (ρ : Env) : RS := .nx ρ
def kSt (i : Nat) (a : Bool × D) (ρ : Env) : Option Slot → Option Env
  | some t => if t.open = true then some (ρ.set i (if a.1 = true then .own a.2 else .val a.2)) else none
  | none => none
def kMut (i : Nat) (d : D) (ρ : Env) : Option Slot → Option Env
  | some (.own _) => some (ρ.set i (.own d))
  | some (.io _) => some (ρ.set i (.io d))
  | _ => none
def kMut3 (a : D) : Option Env → R (Bool × D)
  | some ρ => .ok (false, a) ρ
  | none => .no
def kMut2 (i : Nat) (ρ : Env) : Option (List D × D) → R (Bool × D)
  | some p => kMut3 p.2 (mutS i (.lst p.1) ρ)
  | none => .no
def kMut1 (op : List D → List (Bool × D) → Option (List D × D)) (i : Nat) (ρ : Env) : Option (List (Bool × D)) → Option D → R (Bool × D)
  | some bs, some (.lst ds) => kMut2 i ρ (op ds bs)
  | _, _ => .no
def kMutA (op : List D → List (Bool × D) → Option (List D × D)) (i : Nat) (as : List Arg) (ρ : Env) : R (Bool × D) := kMut1 op i ρ (derefB ρ as) (getP ρ i)
def kMut0 (op : List D → List (Bool × D) → Option (List D × D)) (i : Nat) (l : List SArg) (ρ : Env) : Option D → R (Bool × D)
  | some (.lst _) => (evArgs l ρ).bind (kMutA op i)
  | _ => .no
def kPar2 (i : Nat) (a : Bool × D) : Option Env → RS
  | some ρ => kNx (stS i a ρ)
  | none => .no
def kPar1 (i j : Nat) (a b : Bool × D) (ρ : Env) : RS := kPar2 i a (stS j b ρ)
def kPar0 (i j : Nat) (k : SE) (a : Bool × D) (ρ : Env) : RS := if (a.1 && !a.2.seals) = true then .no else thenS (k ρ) (kPar1 i j a)
def kFn (ρ : Env) : RF → R (Bool × D)
  | .ok a _ => .ok a ρ
  | .exc x _ => .exc x ρ
  | .no => .no
def kFnO (m : List D → RF) (ρ : Env) : Option (List D) → R (Bool × D)
  | some ds => kFn ρ (m ds)
  | none => .no
def kCall (md : List Bool) (m : List D → RF) (as : List Arg) (ρ : Env) : R (Bool × D) := kFnO m ρ (argsVL md ρ as)
def kIo (m : List D → RF) (i : Nat) (ρ : Env) (ds : List D) : Option Slot → R (Bool × D)
  | some (.own d0) => ioC .own i ρ (m (d0 :: ds))
  | some (.io d0) => ioC .io i ρ (m (d0 :: ds))
  | _ => .no
def kIoO (m : List D → RF) (i : Nat) (ρ : Env) : Option (List D) → R (Bool × D)
  | none => .no
  | some ds => kIo m i ρ ds ρ[i]?
def kCallI (md : List Bool) (m : List D → RF) (i : Nat) (as : List Arg) (ρ : Env) : R (Bool × D) := if apart i as = true then kIoO m i ρ (argsVL md ρ as) else .no
def kCallI0 (md : List Bool) (m : List D → RF) (i : Nat) (l : List SArg) (ρ : Env) : Option D → R (Bool × D)
  | none => .no
  | some _ => (evArgs l ρ).bind (kCallI md m i)
def kItP (i : Nat) (ρ : Env) : Option Slot → R (Bool × List D × Lk)
  | some (.val d) => okSeq (seqOf .none d) ρ
  | some (.lent d) => okSeq (seqOf .none d) ρ
  | some (.lown d) => okSeq (seqOf .none d) ρ
  | some (.lio d) => okSeq (seqOf .none d) ρ
  | some (.own (.lst l)) => .ok (true, l, .own i) (ρ.set i (.lown (.lst l)))
  | some (.io (.lst l)) => .ok (true, l, .io i) (ρ.set i (.lio (.lst l)))
  | _ => .no
def kItE (x : Arg) (ρ : Env) : R (Bool × List D × Lk) := match x with
  | .d d => okSeq (seqOf .none d) ρ
  | .p _ => .no
def kSeq (b : Bool × List D × Lk) (ρ : Env) : R (List D × Lk) := .ok (b.2.1, b.2.2) ρ
def kEnum (b : Bool × List D × Lk) (ρ : Env) : R (List D × Lk) := .ok (enumD 0 b.2.1, b.2.2) ρ
def rOk (j : Int) : Bool := decide (-(2 ^ 62) ≤ j ∧ j < 2 ^ 62)
theorem rOk_of {j : Int} (h : 0 ≤ j) (h2 : j < 1000000) : rOk j = true := decide_eq_true (by omega)
def kRng1 (ds : List D) (ρ : Env) : R (List D × Lk) := match ds with
  | [.int j] => if rOk j = true then .ok (rng 0 j.toNat, .none) ρ else .no
  | _ => .no
def kRng2 (ds : List D) (ρ : Env) : R (List D × Lk) := match ds with
  | [.int i, .int j] => if (rOk i && rOk j) = true then .ok (rng i (j - i).toNat, .none) ρ else .no
  | _ => .no
def kForB (st : TgS) (body : SS) (a : List D × Lk) (ρ : Env) : RS := unlS a.2 (loopF st body a.1 ρ)
def kComp1 (ρ : Env) (own : List Nat) (lk : Lk) : Option (List D × Env) → R (Bool × D)
  | some p => .ok (true, .lst p.1) (unlock lk (restore ρ p.2 own))
  | none => .no
def kComp (own : List Nat) (st : TgS) (c : ST) (el : SE) (a : List D × Lk) (ρ : Env) : R (Bool × D) := if plains ρ own = true ∧ a.1.length < sizeLine then kComp1 ρ own a.2 (loopC own st c el a.1 (blank ρ own) []) else .no
def kDeal2 (gs : List Int) (b : Bool × D) (ρ : Env) : R (Bool × D) := match b with
  | (false, .int s) => .ok (true, .deal gs s) ρ
  | _ => .no
def kDeal1 (k : SE) (ρ : Env) : Option (List Int) → R (Bool × D)
  | some gs => (k ρ).bind (kDeal2 gs)
  | none => .no
def kDeal0 (k : SE) (a : Bool × D) (ρ : Env) : R (Bool × D) := match a with
  | (true, .lst l) => kDeal1 k ρ (D.ints l)
  | _ => .no

theorem e_bok (α β : Type) (a : α) (ρ : Env) (k : α → Env → R β) : (R.ok a ρ).bind k = k a ρ := Eq.trans rfl rfl
theorem e_bexc (α β : Type) (x : D) (ρ : Env) (k : α → Env → R β) : (R.exc x ρ : R α).bind k = .exc x ρ := Eq.trans rfl rfl
theorem e_bno (α β : Type) (k : α → Env → R β) : (R.no : R α).bind k = .no := Eq.trans rfl rfl
theorem e_tok (α : Type) (a : α) (ρ : Env) (k : α → Env → RS) : thenS (R.ok a ρ) k = k a ρ := Eq.trans rfl rfl
theorem e_texc (α : Type) (x : D) (ρ : Env) (k : α → Env → RS) : thenS (R.exc x ρ : R α) k = .exc x ρ := Eq.trans rfl rfl
theorem e_tno (α : Type) (k : α → Env → RS) : thenS (R.no : R α) k = .no := Eq.trans rfl rfl
theorem e_snx (ρ : Env) (k : Env → RS) : seqS (.nx ρ) k = k ρ := Eq.trans rfl rfl
theorem e_srt (ρ : Env) (a : Bool × D) (k : Env → RS) : seqS (.rt a ρ) k = .rt a ρ := Eq.trans rfl rfl
theorem e_sbk (ρ : Env) (k : Env → RS) : seqS (.bk ρ) k = .bk ρ := Eq.trans rfl rfl
theorem e_sct (ρ : Env) (k : Env → RS) : seqS (.ct ρ) k = .ct ρ := Eq.trans rfl rfl
theorem e_sexc (ρ : Env) (x : D) (k : Env → RS) : seqS (.exc x ρ) k = .exc x ρ := Eq.trans rfl rfl
theorem e_sno (k : Env → RS) : seqS .no k = .no := Eq.trans rfl rfl
theorem e_getP (ρ : Env) (i : Nat) : getP ρ i = kGet ρ[i]? := by
  unfold getP kGet
  rcases ρ[i]? with _ | s
  · rfl
  · cases s <;> rfl
theorem e_evE (f : SE) (ρ : Env) : evArg (.e f) ρ = (f ρ).bind kE := Eq.trans rfl rfl
theorem e_evP (i : Nat) (ρ : Env) : evArg (.p i) ρ = kP i ρ (getP ρ i) := by
  show (match getP ρ i with | some _ => R.ok (Arg.p i) ρ | none => .no) = _
  cases getP ρ i <;> rfl
theorem e_evN (ρ : Env) : evArgs [] ρ = .ok [] ρ := Eq.trans rfl rfl
theorem e_evC (a : SArg) (r : List SArg) (ρ : Env) : evArgs (a :: r) ρ = (evArg a ρ).bind (kAs r) := Eq.trans rfl rfl
theorem e_derN (ρ : Env) : derefs ρ [] = some [] := Eq.trans rfl rfl
theorem e_derC (ρ : Env) (a : Arg) (r : List Arg) : derefs ρ (a :: r) = kLis (deref ρ a) (derefs ρ r) := by
  show (match deref ρ a, derefs ρ r with | some d, some ds => some (d :: ds) | _, _ => none) = _
  cases deref ρ a <;> cases derefs ρ r <;> rfl
theorem e_derBC (ρ : Env) (a : Arg) (r : List Arg) : derefB ρ (a :: r) = kLis ((deref ρ a).map fun d => (frzA a, d)) (derefB ρ r) := by
  show (match deref ρ a, derefB ρ r with | some d, some ds => some ((frzA a, d) :: ds) | _, _ => none) = _
  cases deref ρ a <;> cases derefB ρ r <;> rfl
theorem e_der (ρ : Env) (d : D) : deref ρ (.d d) = some d := Eq.trans rfl rfl
theorem e_derP (ρ : Env) (i : Nat) : deref ρ (.p i) = getP ρ i := Eq.trans rfl rfl
theorem e_sArgs (l : List SArg) (ρ : Env) : sArgs l ρ = (evArgs l ρ).bind kDer := by
  unfold sArgs
  congr 1
  funext as ρ'
  unfold kDer kOpt
  cases derefs ρ' as <;> rfl
theorem e_sOp (sem : List D → Option (Bool × D)) (l : List SArg) (ρ : Env) : sOp sem l ρ = (sArgs l ρ).bind (kOp sem) := by
  unfold sOp
  congr 1
  funext as ρ'
  unfold kOp kOpt
  cases sem as <;> rfl
theorem e_sDisp (sem : List D → Option (Bool × D)) (l : List SArg) (ρ : Env) : sDisp sem l ρ = (evArgs l ρ).bind (kDisp sem) := by
  unfold sDisp
  congr 1
  funext as ρ'
  unfold kDisp kOpt
  cases frz as with
  | none => rfl
  | some ds =>
    show (match sem ds with | some a => R.ok a ρ' | none => .no) = _
    rw [Option.bind_some]
    cases sem ds <;> rfl
theorem e_sVar (i : Nat) (ρ : Env) : sVar i ρ = kVar i ρ ρ[i]? := by
  unfold sVar kVar
  rcases ρ[i]? with _ | s
  · rfl
  · cases s <;> rfl
theorem e_mvVar (i : Nat) (ρ : Env) : mvVar i ρ = kMv i ρ ρ[i]? := by
  unfold mvVar kMv
  rcases ρ[i]? with _ | s
  · rfl
  · cases s <;> rfl
theorem e_sC (d : D) (ρ : Env) : sC d ρ = .ok (false, d) ρ := Eq.trans rfl rfl
theorem e_cVal (f : SE) (ρ : Env) : cVal f ρ = (f ρ).bind kVal := Eq.trans rfl rfl
theorem e_cAnd (c d : ST) (ρ : Env) : cAnd c d ρ = (c ρ).bind (kAndT d) := Eq.trans rfl rfl
theorem e_cOr (c d : ST) (ρ : Env) : cOr c d ρ = (c ρ).bind (kOrT d) := Eq.trans rfl rfl
theorem e_cNot (c : ST) (ρ : Env) : cNot c ρ = (c ρ).bind kNotT := Eq.trans rfl rfl
theorem e_cTru (a : SArg) (ρ : Env) : cTru a ρ = (evArg a ρ).bind kTru := by
  unfold cTru
  congr 1
  funext x ρ'
  unfold kTru kOpt
  cases deref ρ' x with
  | none => rfl
  | some d =>
    rw [Option.bind_some]
    dsimp only
    cases d.truth <;> rfl
theorem e_sAnd (f k : SE) (ρ : Env) : sAnd f k ρ = (f ρ).bind (kAndE k) := Eq.trans rfl rfl
theorem e_sOr (f k : SE) (ρ : Env) : sOr f k ρ = (f ρ).bind (kOrE k) := Eq.trans rfl rfl
theorem e_sNot (f : SE) (ρ : Env) : sNot f ρ = (f ρ).bind kNotE := Eq.trans rfl rfl
theorem e_sIf (c : ST) (f k : SE) (ρ : Env) : sIf c f k ρ = (c ρ).bind (kIfE f k) := Eq.trans rfl rfl
theorem e_bNil (ρ : Env) : bNil ρ = .nx ρ := Eq.trans rfl rfl
theorem e_bCons (f k : SS) (ρ : Env) : bCons f k ρ = seqS (f ρ) k := Eq.trans rfl rfl
theorem e_bIf (c : ST) (f k : SS) (ρ : Env) : bIf c f k ρ = thenS (c ρ) (kIfS f k) := Eq.trans rfl rfl
theorem e_bSet (i : Nat) (f : SE) (ρ : Env) : bSet i f ρ = thenS (f ρ) (kSetS i) := by
  unfold bSet
  congr 1
theorem e_bExpr (f : SE) (ρ : Env) : bExpr f ρ = thenS (f ρ) kExp := Eq.trans rfl rfl
theorem e_bRet (f : SE) (ρ : Env) : bRet f ρ = thenS (f ρ) RS.rt := Eq.trans rfl rfl
theorem e_bRetN (ρ : Env) : bRetN ρ = .rt (false, .non) ρ := Eq.trans rfl rfl
theorem e_bPass (ρ : Env) : bPass ρ = .nx ρ := Eq.trans rfl rfl
theorem e_stS (i : Nat) (a : Bool × D) (ρ : Env) : stS i a ρ = kSt i a ρ ρ[i]? := by
  unfold stS kSt
  cases ρ[i]? <;> rfl
theorem e_mutS (i : Nat) (d : D) (ρ : Env) : mutS i d ρ = kMut i d ρ ρ[i]? := by
  unfold mutS kMut
  rcases ρ[i]? with _ | s
  · rfl
  · cases s <;> rfl
theorem e_sMut (op : List D → List (Bool × D) → Option (List D × D)) (i : Nat) (l : List SArg) (ρ : Env) : sMut op i l ρ = kMut0 op i l ρ (getP ρ i) := by
  unfold sMut kMut0
  cases getP ρ i with
  | none => rfl
  | some d =>
    cases d with
    | lst ds0 =>
      dsimp only
      congr 1
      funext as ρ1
      unfold kMutA kMut1
      cases derefB ρ1 as with
      | none => rfl
      | some bs =>
        cases getP ρ1 i with
        | none => rfl
        | some d1 =>
          cases d1 with
          | lst ds =>
            dsimp only
            unfold kMut2
            cases op ds bs with
            | none => rfl
            | some w =>
              obtain ⟨ds', res⟩ := w
              dsimp only
              unfold kMut3
              cases mutS i (.lst ds') ρ1 <;> rfl
          | _ => rfl
    | _ => rfl
theorem e_bPar (i j : Nat) (f k : SE) (ρ : Env) : bPar i j f k ρ = thenS (f ρ) (kPar0 i j k) := by
  unfold bPar
  congr 1
theorem e_sCallV (md : List Bool) (m : List D → RF) (l : List SArg) (ρ : Env) : sCallV md m l ρ = (evArgs l ρ).bind (kCall md m) := by
  unfold sCallV
  congr 1
theorem e_sCallI (md : List Bool) (m : List D → RF) (i : Nat) (l : List SArg) (ρ : Env) : sCallI md m i l ρ = kCallI0 md m i l ρ (getP ρ i) := by
  unfold sCallI kCallI0
  cases getP ρ i with
  | none => rfl
  | some d =>
    dsimp only
    congr 1
theorem e_itP (i : Nat) (ρ : Env) : itP i ρ = kItP i ρ ρ[i]? := by
  unfold itP kItP
  rcases ρ[i]? with _ | s
  · rfl
  · cases s with
    | own d => cases d <;> rfl
    | io d => cases d <;> rfl
    | _ => rfl
theorem e_itAP (i : Nat) (ρ : Env) : itA (.p i) ρ = itP i ρ := Eq.trans rfl rfl
theorem e_itAE (f : SE) (ρ : Env) : itA (.e f) ρ = (evArg (.e f) ρ).bind kItE := Eq.trans rfl rfl
theorem e_itSeq (a : SArg) (ρ : Env) : itSeq a ρ = (itA a ρ).bind kSeq := Eq.trans rfl rfl
theorem e_itEnum (a : SArg) (ρ : Env) : itEnum a ρ = (itA a ρ).bind kEnum := Eq.trans rfl rfl
theorem e_itRng1 (a : SArg) (ρ : Env) : itRng1 a ρ = (sArgs [a] ρ).bind kRng1 := by
  unfold itRng1
  congr 1
  funext ds ρ'
  cases ds with
  | nil => rfl
  | cons d r =>
    cases r with
    | cons _ _ => cases d <;> rfl
    | nil =>
      cases d with
      | int j => show (if _ then _ else _) = (if rOk j = true then _ else _); simp only [rOk, decide_eq_true_eq]
      | _ => rfl
theorem e_itRng2 (a b : SArg) (ρ : Env) : itRng2 a b ρ = (sArgs [a, b] ρ).bind kRng2 := by
  unfold itRng2
  congr 1
  funext ds ρ'
  cases ds with
  | nil => rfl
  | cons d r =>
    cases r with
    | nil => cases d <;> rfl
    | cons d2 r =>
      cases r with
      | cons _ _ => cases d <;> cases d2 <;> rfl
      | nil =>
        cases d with
        | int i =>
          cases d2 with
          | int j => show (if _ then _ else _) = (if (rOk i && rOk j) = true then _ else _); simp only [rOk, Bool.and_eq_true, decide_eq_true_eq]
          | _ => rfl
        | _ => cases d2 <;> rfl
theorem r1_ok {j : Int} {ρ : Env} (h : rOk j = true) : kRng1 [.int j] ρ = .ok (rng 0 j.toNat, .none) ρ := by
  show (if rOk j = true then _ else _) = _
  rw [if_pos h]
theorem r2_ok {i j : Int} {ρ : Env} (h : rOk i = true) (q : rOk j = true) : kRng2 [.int i, .int j] ρ = .ok (rng i (j - i).toNat, .none) ρ := by
  show (if (rOk i && rOk j) = true then _ else _) = _
  rw [h, q]; rfl
theorem e_oNo : Slot.no.open = true := Eq.trans rfl rfl
theorem e_oVal (d : D) : (Slot.val d).open = true := Eq.trans rfl rfl
theorem e_oOwn (d : D) : (Slot.own d).open = true := Eq.trans rfl rfl
theorem e_oIo (d : D) : (Slot.io d).open = true := Eq.trans rfl rfl
theorem e_bFor (it : SI) (st : TgS) (body : SS) (ρ : Env) : bFor it st body ρ = thenS (it ρ) (kForB st body) := Eq.trans rfl rfl
theorem e_sComp (it : SI) (own : List Nat) (st : TgS) (c : ST) (el : SE) (ρ : Env) : sComp it own st c el ρ = (it ρ).bind (kComp own st c el) := by
  unfold sComp
  congr 1
  funext a ρ1
  unfold kComp
  congr 1
  unfold kComp1
  rcases loopC own st c el a.1 (blank ρ1 own) [] with _ | ⟨p, q⟩ <;> rfl
theorem e_sDeal (f k : SE) (ρ : Env) : sDeal f k ρ = (f ρ).bind (kDeal0 k) := by
  unfold sDeal
  congr 1
theorem e_cYes (ρ : Env) : cYes ρ = .ok true ρ := Eq.trans rfl rfl
end J

namespace J
open PySem PySem.Spec PyProof.Rows L2

/-! ## the deal: drawn from -/
section
variable {X : Cx} {g : Gh} {W : WX} {F H F' H' : Hp} {ρ ρ0 : Env} {σ : L2.St} {i j : Nat} {v x : V} {d d0 d1 : D} {a l : Addr} {ds : List D} {s : Int}
def sStir (i : Nat) : SE := fun ρ => match ρ[i]? with
  | some (.io (.dealA l s)) => .ok (false, .int s) ρ
  | _ => .no
theorem EnvOk.dealA (E : EnvOk g F H ρ σ) (h : ρ[i]? = some (.io (.dealA l s))) : ∃ a, σ[i]? = some (some (.ref a)) ∧ H a = some (.dK [(Sum.inr "great", .ref l), (Sum.inr "stirred", .int s)]) := by
  obtain ⟨fp, S⟩ := E.fps
  have q := S.ok i
  rw [h] at q
  obtain ⟨x, hx, o, _⟩ := q
  generalize hA : fp i = A at o
  cases o with
  | dealA fa ha => exact ⟨_, hx, ha⟩
theorem stir_run {Q : VK} (h : tE g W (sStir i) σ H Q) : tDGet (tVar i) (tC (.str "stirred")) σ H Q := by
  obtain ⟨F, ρ, E, q⟩ := h
  unfold sStir at q
  split at q
  · rename_i l s e
    obtain ⟨a, hx, ha⟩ := E.dealA e
    exact ⟨.ref a, hx, a, .int s, rfl, .inl ⟨_, Sum.inr "stirred", .inl ha, rfl, rfl⟩, q F H (.refl _) _ ⟨E, .int s⟩⟩
  · exact q.elim
theorem jStir {e : Expr} (h : PE X e (tDGet (tVar i) (tC (.str "stirred")))) : PE X e (tE g W (sStir i)) := PEimp h fun _ _ _ q => stir_run q
def bStir (i : Nat) (f : SE) : SS := fun ρ => thenS (f ρ) fun a ρ' => match a, ρ'[i]? with
  | (false, .int s), some (.io (.dealA l _)) => .nx (ρ'.set i (.io (.dealA l s)))
  | _, _ => .no
theorem kStir {st : Stmt} {f : SE} (h : PS X st (sDPut (tVar i) (tC (.str "stirred")) (tE g W f))) : PS X st (tS g W (bStir i f)) := by
  refine PSimp h fun E σ H ⟨F, ρ, e, q⟩ => ⟨F, ρ, e, (GoesS.expr q).imp fun a ρ' F' H' u q v A => ?_⟩
  split at q
  · rename_i a' s' o' s l s0 e1
    obtain ⟨a, hx, ha⟩ := A.env.dealA e1
    have r := A.2
    cases r
    refine ⟨.ref a, hx, a, upd H' a (.dK [(Sum.inr "great", .ref l), (Sum.inr "stirred", .int s)]), rfl, .inl ⟨_, Sum.inr "stirred", ha, rfl, by simp [sizeLine], rfl⟩, ?_⟩
    obtain ⟨fp, S⟩ := A.env.fps
    have o := S.ok i
    rw [e1, hx] at o
    obtain ⟨x, hx', o, hI⟩ := o
    cases hx'
    have E := A.env
    have hA : fp i = [a] ∧ F' a = none := by
      generalize hA : fp i = B at o
      cases o with
      | dealA fa _ => exact ⟨rfl, fa⟩
    have P : Post F' H' F' (upd H' a (.dK [(Sum.inr "great", .ref l), (Sum.inr "stirred", .int s)])) (fp i) := ⟨.refl _, fun b w e => by rw [upd_ne (ne_of_none e hA.2)]; exact E.sub _ _ e, fun _ _ h => .inl h, fun b w e nb => by
      rw [upd_ne (fun z => nb (by rw [hA.1, z]; simp))]; exact e⟩
    refine q σ F' _ (E.chg (d := .dealA l s0) (s' := .io (.dealA l s)) e1 (.inr ⟨rfl, _, rfl⟩) ⟨fp, S, P, fun x hx' o' ho' => ?_⟩).1 (.refl _)
    rw [hx] at hx'
    cases hx'
    rcases ho' with z | z <;> cases z
    rw [hA.1]
    exact .dealA hA.2 upd_same
  · exact q.elim

/-- what a draw is -/
def drops (gs : List Int) : List Int := (gs.reverse.dropWhile (· == 0)).reverse
def drawIp (p q r t : Int) (gs : List Int) (s m : Int) : Int × List Int × Int := match (drops gs).getLast? with
  | some c => (c % m, (drops gs).dropLast ++ [c / m], s)
  | none => ((s * p + q) % r / t % m, [], (s * p + q) % r)
def drawI (gs : List Int) (s m : Int) : Int × List Int × Int := drawIp 69621 17 2147483647 32 gs s m
def drawM : List D → RF
  | [.deal gs s, .int m] => if 0 < m ∧ m < 2 ^ 63 ∧ gs.length < 64 ∧ 0 ≤ s ∧ s < 2147483647 then .ok (false, .int (drawI gs s m).1) (.deal (drawI gs s m).2.1 (drawI gs s m).2.2) else .no
  | _ => .no
def drawW : ST := cAnd (cVal (sOp (l2 dNe) [.p 2, .e (sDisp mLst [])])) (cVal (sOp (l2 dEq) [.e (sOp (l2 dIx) [.p 2, .e (sOp (l1 dNeg) [.e (sC (.int 1))])]), .e (sC (.int 0))]))
def drawBp (p q r t : Int) : SS :=
  bCons (loopW drawW (bExpr (sMut oPop 2 [])) 65)
  (bCons (bIf (cVal (sOp (l2 dNe) [.p 2, .e (sDisp mLst [])]))
    (bCons (bSet 3 (sMut oPop 2 [])) (bCons (bExpr (sMut oAppend 2 [.e (sOp (l2 dDiv) [.p 3, .p 1])])) (bRet (sOp (l2 dMod) [.e (sOp (l1 dInt) [.p 3]), .p 1])))) bNil)
  (bCons (bStir 0 (sOp (l2 dMod) [.e (sOp (l1 dInt) [.e (sOp (l2 dAdd) [.e (sOp (l2 dMul) [.e (sStir 0), .e (sC (.int p))]), .e (sC (.int q))])]), .e (sC (.int r))]))
    (bRet (sOp (l2 dMod) [.e (sOp (l1 dInt) [.e (sOp (l2 dDiv) [.e (sStir 0), .e (sC (.int t))])]), .p 1]))))
def drawB : SS := drawBp 69621 17 2147483647 32
def drawE (l : Addr) (gs : List Int) (s m : Int) (t : Slot) : Env := [.io (.dealA l s), .val (.int m), .io (.lst (gs.map D.int)), t]

/-! the equations of small things -/
theorem pys_ints : ∀ gs : List Int, D.pys (gs.map D.int) = some (gs.map PyData.int)
  | [] => rfl
  | g :: gs => by rw [List.map_cons, D.pys, D.py, pys_ints gs]; rfl
theorem lay_ints : ∀ gs : List Int, PyData.canLayAll0 (gs.map PyData.int) = true
  | [] => by rw [List.map_nil, PyData.canLayAll0]
  | g :: gs => by rw [List.map_cons, PyData.canLayAll0, PyData.canLay0, lay_ints gs]; rfl
theorem dep_ints : ∀ gs : List Int, PyData.depthAll (gs.map PyData.int) ≤ 2
  | [] => by rw [List.map_nil, PyData.depthAll]; omega
  | g :: gs => by
    have := dep_ints gs
    rw [List.map_cons, PyData.depthAll, PyData.depth]
    omega
theorem shaped_ints (gs : List Int) : SeqAt.shaped (.list (gs.map PyData.int)) = true := by
  have := dep_ints gs
  unfold SeqAt.shaped
  rw [PyData.canLay0, lay_ints, PyData.depth, Bool.true_and, decide_eq_true_eq]
  omega
theorem ne_nil (gs : List Int) : dNe (.lst (gs.map D.int)) (.lst []) = some (false, .bl (!gs.isEmpty)) := by
  unfold dNe
  rw [D.py, pys_ints, D.py]
  rw [show D.pys [] = some [] from rfl]
  simp only [Option.map_some]
  rw [shaped_ints, show SeqAt.shaped (.list []) = true from shaped_ints []]
  cases gs with
  | nil => rfl
  | cons g gs => rw [List.map_cons, PyData.eqv, PyData.eqvAll]; rfl
theorem eq_ints (a b : Int) : dEq (.int a) (.int b) = some (false, .bl (a == b)) := by
  unfold dEq
  rw [D.py, D.py]
  simp only []
  rw [show SeqAt.shaped (.int a) = true from rfl, show SeqAt.shaped (.int b) = true from rfl, PyData.eqv]
  rfl
theorem atI_last {α : Type} (l : List α) : atI l (-1) = l.getLast? := by
  unfold L2.atI L2.ixN
  rw [if_neg (by decide), List.getLast?_eq_getElem?]
  cases l with
  | nil => rfl
  | cons a r =>
    rw [if_pos (by simp; omega)]
    have : ((-1 : Int) + ((a :: r).length : Nat)).toNat = (a :: r).length - 1 := by simp; omega
    rw [this]; rfl
theorem last_ints (gs : List Int) : dIx (.lst (gs.map D.int)) (.int (-1)) = gs.getLast?.map fun c => (false, .int c) := by
  show (atI (gs.map D.int) (-1)).map _ = _
  rw [atI_last, List.getLast?_map, Option.map_map]
  rfl
theorem drawW_eq {l : Addr} {gs : List Int} {s m : Int} {t : Slot} : drawW (drawE l gs s m t) = .ok (match gs.getLast? with | some c => c == 0 | none => false) (drawE l gs s m t) := by
  simp only [drawW, drawE, ne_nil, last_ints, eq_ints, e_bok, e_bexc, e_bno, e_tok, e_texc, e_tno, e_snx, e_srt, e_sbk, e_sct, e_sexc, e_sno, e_getP, e_evE, e_evP, e_evN, e_evC, e_derN, e_derC, e_derBC, e_der, e_derP, e_sArgs, e_sOp, e_sDisp, e_sVar, e_mvVar, e_sC, e_cVal, e_cAnd, e_cOr, e_cNot, e_cTru, e_sAnd, e_sOr, e_sNot, e_sIf, e_bNil, e_bCons, e_bIf, e_bSet, e_bExpr, e_bRet, e_bRetN, e_bPass, e_stS, e_mutS, e_sMut, e_bPar, e_sCallV, e_sCallI, e_itP, e_itAP, e_itAE, e_itSeq, e_itEnum, e_itRng1, e_itRng2, e_oNo, e_oVal, e_oOwn, e_oIo, e_bFor, e_sComp, e_sDeal, e_cYes, kGet, kOpt, kLis, kE, kP, kAs1, kAs, kDer, kOp, kDisp, kVar, kMv, kVal, kAndT, kOrT, kNotT, kTru, kAndE, kOrE, kNotE, kIfE, kIfS, kNx, kSetS, kExp, kSt, kMut, kMut3, kMut2, kMut1, kMutA, kMut0, kPar2, kPar1, kPar0, kFn, kFnO, kCall, kIo, kIoO, kCallI, kCallI0, kItP, kItE, kSeq, kEnum, kForB, kComp1, kComp, kDeal2, kDeal1, kDeal0, List.getElem?_cons_succ, List.getElem?_cons_zero, List.set_cons_zero, List.set_cons_succ, List.length_nil, List.length_cons, Bool.false_and, Bool.and_false, Bool.true_and, Bool.and_true, Bool.not_true, Bool.not_false, Bool.false_eq_true, if_true, if_false, reduceIte, Option.map_some, Option.map_none, Option.bind_some, Option.bind_none, D.seals, D.isB, l1, l2, frz, frzA, oAppend, oPop, oPopAt, oExtend, mTup, mLst, Nat.zero_le, argsVL, ioC, seqOf, okSeq, unlS, unlock, unlO, unlI, derefB, D.truth, dNeg]
  cases h : gs.getLast? with
  | none =>
    rw [List.getLast?_eq_none_iff] at h
    subst h
    simp only [List.isEmpty_nil, e_bok, e_bexc, e_bno, e_tok, e_texc, e_tno, e_snx, e_srt, e_sbk, e_sct, e_sexc, e_sno, e_getP, e_evE, e_evP, e_evN, e_evC, e_derN, e_derC, e_derBC, e_der, e_derP, e_sArgs, e_sOp, e_sDisp, e_sVar, e_mvVar, e_sC, e_cVal, e_cAnd, e_cOr, e_cNot, e_cTru, e_sAnd, e_sOr, e_sNot, e_sIf, e_bNil, e_bCons, e_bIf, e_bSet, e_bExpr, e_bRet, e_bRetN, e_bPass, e_stS, e_mutS, e_sMut, e_bPar, e_sCallV, e_sCallI, e_itP, e_itAP, e_itAE, e_itSeq, e_itEnum, e_itRng1, e_itRng2, e_oNo, e_oVal, e_oOwn, e_oIo, e_bFor, e_sComp, e_sDeal, e_cYes, kGet, kOpt, kLis, kE, kP, kAs1, kAs, kDer, kOp, kDisp, kVar, kMv, kVal, kAndT, kOrT, kNotT, kTru, kAndE, kOrE, kNotE, kIfE, kIfS, kNx, kSetS, kExp, kSt, kMut, kMut3, kMut2, kMut1, kMutA, kMut0, kPar2, kPar1, kPar0, kFn, kFnO, kCall, kIo, kIoO, kCallI, kCallI0, kItP, kItE, kSeq, kEnum, kForB, kComp1, kComp, kDeal2, kDeal1, kDeal0, List.getElem?_cons_succ, List.getElem?_cons_zero, List.set_cons_zero, List.set_cons_succ, List.length_nil, List.length_cons, Bool.false_and, Bool.and_false, Bool.true_and, Bool.and_true, Bool.not_true, Bool.not_false, Bool.false_eq_true, if_true, if_false, reduceIte, Option.map_some, Option.map_none, Option.bind_some, Option.bind_none, D.seals, D.isB, l1, l2, frz, frzA, oAppend, oPop, oPopAt, oExtend, mTup, mLst, Nat.zero_le, argsVL, ioC, seqOf, okSeq, unlS, unlock, unlO, unlI, derefB, D.truth, dNeg]
  | some c =>
    have : gs.isEmpty = false := by
      cases gs with
      | nil => cases h
      | cons a r => rfl
    simp only [this, eq_ints, e_bok, e_bexc, e_bno, e_tok, e_texc, e_tno, e_snx, e_srt, e_sbk, e_sct, e_sexc, e_sno, e_getP, e_evE, e_evP, e_evN, e_evC, e_derN, e_derC, e_derBC, e_der, e_derP, e_sArgs, e_sOp, e_sDisp, e_sVar, e_mvVar, e_sC, e_cVal, e_cAnd, e_cOr, e_cNot, e_cTru, e_sAnd, e_sOr, e_sNot, e_sIf, e_bNil, e_bCons, e_bIf, e_bSet, e_bExpr, e_bRet, e_bRetN, e_bPass, e_stS, e_mutS, e_sMut, e_bPar, e_sCallV, e_sCallI, e_itP, e_itAP, e_itAE, e_itSeq, e_itEnum, e_itRng1, e_itRng2, e_oNo, e_oVal, e_oOwn, e_oIo, e_bFor, e_sComp, e_sDeal, e_cYes, kGet, kOpt, kLis, kE, kP, kAs1, kAs, kDer, kOp, kDisp, kVar, kMv, kVal, kAndT, kOrT, kNotT, kTru, kAndE, kOrE, kNotE, kIfE, kIfS, kNx, kSetS, kExp, kSt, kMut, kMut3, kMut2, kMut1, kMutA, kMut0, kPar2, kPar1, kPar0, kFn, kFnO, kCall, kIo, kIoO, kCallI, kCallI0, kItP, kItE, kSeq, kEnum, kForB, kComp1, kComp, kDeal2, kDeal1, kDeal0, List.getElem?_cons_succ, List.getElem?_cons_zero, List.set_cons_zero, List.set_cons_succ, List.length_nil, List.length_cons, Bool.false_and, Bool.and_false, Bool.true_and, Bool.and_true, Bool.not_true, Bool.not_false, Bool.false_eq_true, if_true, if_false, reduceIte, Option.map_some, Option.map_none, Option.bind_some, Option.bind_none, D.seals, D.isB, l1, l2, frz, frzA, oAppend, oPop, oPopAt, oExtend, mTup, mLst, Nat.zero_le, argsVL, ioC, seqOf, okSeq, unlS, unlock, unlO, unlI, derefB, D.truth, dNeg]
theorem popS_eq {l : Addr} {gs : List Int} {s m : Int} {t : Slot} {c : Int} (h : gs.getLast? = some c) : sMut oPop 2 [] (drawE l gs s m t) = .ok (false, .int c) (drawE l gs.dropLast s m t) := by
  have h2 : (gs.map D.int)[(gs.map D.int).length - 1]? = some (.int c) := by
    rw [← List.getLast?_eq_getElem?, List.getLast?_map, h]; rfl
  simp only [drawE, h2, List.map_dropLast, e_bok, e_bexc, e_bno, e_tok, e_texc, e_tno, e_snx, e_srt, e_sbk, e_sct, e_sexc, e_sno, e_getP, e_evE, e_evP, e_evN, e_evC, e_derN, e_derC, e_derBC, e_der, e_derP, e_sArgs, e_sOp, e_sDisp, e_sVar, e_mvVar, e_sC, e_cVal, e_cAnd, e_cOr, e_cNot, e_cTru, e_sAnd, e_sOr, e_sNot, e_sIf, e_bNil, e_bCons, e_bIf, e_bSet, e_bExpr, e_bRet, e_bRetN, e_bPass, e_stS, e_mutS, e_sMut, e_bPar, e_sCallV, e_sCallI, e_itP, e_itAP, e_itAE, e_itSeq, e_itEnum, e_itRng1, e_itRng2, e_oNo, e_oVal, e_oOwn, e_oIo, e_bFor, e_sComp, e_sDeal, e_cYes, kGet, kOpt, kLis, kE, kP, kAs1, kAs, kDer, kOp, kDisp, kVar, kMv, kVal, kAndT, kOrT, kNotT, kTru, kAndE, kOrE, kNotE, kIfE, kIfS, kNx, kSetS, kExp, kSt, kMut, kMut3, kMut2, kMut1, kMutA, kMut0, kPar2, kPar1, kPar0, kFn, kFnO, kCall, kIo, kIoO, kCallI, kCallI0, kItP, kItE, kSeq, kEnum, kForB, kComp1, kComp, kDeal2, kDeal1, kDeal0, List.getElem?_cons_succ, List.getElem?_cons_zero, List.set_cons_zero, List.set_cons_succ, List.length_nil, List.length_cons, Bool.false_and, Bool.and_false, Bool.true_and, Bool.and_true, Bool.not_true, Bool.not_false, Bool.false_eq_true, if_true, if_false, reduceIte, Option.map_some, Option.map_none, Option.bind_some, Option.bind_none, D.seals, D.isB, l1, l2, frz, frzA, oAppend, oPop, oPopAt, oExtend, mTup, mLst, Nat.zero_le, argsVL, ioC, seqOf, okSeq, unlS, unlock, unlO, unlI, derefB, D.truth, dNeg]
theorem drawL_eq {l : Addr} {s m : Int} {t : Slot} : ∀ (n : Nat) (gs : List Int), gs.length < n → loopW drawW (bExpr (sMut oPop 2 [])) n (drawE l gs s m t) = .nx (drawE l (drops gs) s m t)
  | 0, gs, h => by omega
  | n + 1, gs, h => by
    rw [loopW, drawW_eq, e_tok]
    rcases List.eq_nil_or_concat gs with rfl | ⟨r, c, rfl⟩
    · simp only [List.getLast?_nil, Bool.false_eq_true, if_false]; rfl
    · rw [List.concat_eq_append] at h ⊢
      rw [List.getLast?_concat]
      dsimp only
      by_cases z : c = 0
      · subst z
        rw [if_pos (by rfl)]
        have hp := popS_eq (l := l) (s := s) (m := m) (t := t) (gs := r ++ [0]) (c := 0) List.getLast?_concat
        have hb : bExpr (sMut oPop 2 []) (drawE l (r ++ [0]) s m t) = .nx (drawE l r s m t) := by
          unfold bExpr
          rw [hp, e_tok, List.dropLast_concat]
        rw [hb]
        dsimp only
        rw [drawL_eq n r (by simp at h; omega)]
        unfold drops
        simp
      · rw [if_neg (by simpa using z)]
        unfold drops
        rw [List.reverse_append, List.reverse_singleton, List.singleton_append, List.dropWhile_cons_of_neg (by simpa using z)]
        simp
theorem drops_le (gs : List Int) : (drops gs).length ≤ gs.length := by
  unfold drops
  have := (List.dropWhile_sublist (fun x : Int => x == 0) (l := gs.reverse)).length_le
  simpa using this
theorem dII_ok {C : Int → Int → Bool} {f : Int → Int → D} {i j : Int} (h : C i j = true) : dII C f (.int i) (.int j) = some (false, f i j) := by
  show (if C i j = true then some (false, f i j) else none) = _
  rw [if_pos h]
theorem mod_ok {i j : Int} (h : 0 < j) : dMod (.int i) (.int j) = some (false, .int (i % j)) := dII_ok (decide_eq_true h)
theorem div_ok {i j : Int} (h : 0 < j) (h2 : j < 2 ^ 63) : dDiv (.int i) (.int j) = some (false, .int (i / j)) := by
  have h1 : j.natAbs ≠ 0 := by omega
  have h2 : j.natAbs < 2 ^ 63 := by omega
  have := (Nat.log2_lt h1).mpr h2
  exact dII_ok (decide_eq_true ⟨h, by omega⟩)
theorem bits_le {s : Int} {n : Nat} (h0 : 0 ≤ s) (h : s < 2 ^ n) : Builtin.Int.intBits s ≤ n := by
  unfold Builtin.Int.intBits
  by_cases z : s = 0
  · subst z; exact Nat.zero_le _
  · rw [if_neg (by simpa using z)]
    have h1 : s.natAbs ≠ 0 := by omega
    have h2 : s.natAbs < 2 ^ n := by
      have : ((2 ^ n : Nat) : Int) = 2 ^ n := by norm_cast
      omega
    have := (Nat.log2_lt h1).mpr h2
    omega
theorem stir_mul {s : Int} (h0 : 0 ≤ s) (hs : s < 2147483647) : dMul (.int s) (.int 69621) = some (false, .int (s * 69621)) := by
  have h1 := bits_le (n := 31) h0 (by omega)
  have h2 : Builtin.Int.intBits 69621 ≤ 17 := bits_le (by omega) (by omega)
  exact dII_ok (decide_eq_true (by omega))
theorem mod_b (c : Int) : dMod (.int c) (.int 2147483647) = some (false, .int (c % 2147483647)) := mod_ok (by omega)
theorem div_32 (c : Int) : dDiv (.int c) (.int 32) = some (false, .int (c / 32)) := div_ok (by omega) (by omega)
theorem ne0 : dNe (.lst []) (.lst []) = some (false, .bl false) := ne_nil []
theorem drawBp_eq {p q r t : Int} {l : Addr} {gs : List Int} {s m : Int} (hm : 0 < m) (hm2 : m < 2 ^ 63) (hg : gs.length < 64) (hmul : dMul (.int s) (.int p) = some (false, .int (s * p))) (hmod2 : ∀ c : Int, dMod (.int c) (.int r) = some (false, .int (c % r))) (hdiv2 : ∀ c : Int, dDiv (.int c) (.int t) = some (false, .int (c / t))) :
    ∃ z, drawBp p q r t (drawE l gs s m .no) = .rt (false, .int (drawIp p q r t gs s m).1) (drawE l (drawIp p q r t gs s m).2.1 (drawIp p q r t gs s m).2.2 m z) := by
  have hdiv : ∀ c : Int, dDiv (.int c) (.int m) = some (false, .int (c / m)) := fun c => div_ok hm hm2
  have hmod : ∀ c : Int, dMod (.int c) (.int m) = some (false, .int (c % m)) := fun c => mod_ok hm
  have hle := drops_le gs
  unfold drawBp
  rw [e_bCons]
  rw [drawL_eq 65 gs (by omega), e_snx]
  unfold drawIp
  cases h : (drops gs).getLast? with
  | none =>
    rw [List.getLast?_eq_none_iff] at h
    rw [h]
    refine ⟨.no, ?_⟩
    simp only [drawE, ne0, bStir, sStir, hmul, dAdd, dInt, hmod2, hdiv2, hmod, List.map_nil, e_bok, e_bexc, e_bno, e_tok, e_texc, e_tno, e_snx, e_srt, e_sbk, e_sct, e_sexc, e_sno, e_getP, e_evE, e_evP, e_evN, e_evC, e_derN, e_derC, e_derBC, e_der, e_derP, e_sArgs, e_sOp, e_sDisp, e_sVar, e_mvVar, e_sC, e_cVal, e_cAnd, e_cOr, e_cNot, e_cTru, e_sAnd, e_sOr, e_sNot, e_sIf, e_bNil, e_bCons, e_bIf, e_bSet, e_bExpr, e_bRet, e_bRetN, e_bPass, e_stS, e_mutS, e_sMut, e_bPar, e_sCallV, e_sCallI, e_itP, e_itAP, e_itAE, e_itSeq, e_itEnum, e_itRng1, e_itRng2, e_oNo, e_oVal, e_oOwn, e_oIo, e_bFor, e_sComp, e_sDeal, e_cYes, kGet, kOpt, kLis, kE, kP, kAs1, kAs, kDer, kOp, kDisp, kVar, kMv, kVal, kAndT, kOrT, kNotT, kTru, kAndE, kOrE, kNotE, kIfE, kIfS, kNx, kSetS, kExp, kSt, kMut, kMut3, kMut2, kMut1, kMutA, kMut0, kPar2, kPar1, kPar0, kFn, kFnO, kCall, kIo, kIoO, kCallI, kCallI0, kItP, kItE, kSeq, kEnum, kForB, kComp1, kComp, kDeal2, kDeal1, kDeal0, List.getElem?_cons_succ, List.getElem?_cons_zero, List.set_cons_zero, List.set_cons_succ, List.length_nil, List.length_cons, Bool.false_and, Bool.and_false, Bool.true_and, Bool.and_true, Bool.not_true, Bool.not_false, Bool.false_eq_true, if_true, if_false, reduceIte, Option.map_some, Option.map_none, Option.bind_some, Option.bind_none, D.seals, D.isB, l1, l2, frz, frzA, oAppend, oPop, oPopAt, oExtend, mTup, mLst, Nat.zero_le, argsVL, ioC, seqOf, okSeq, unlS, unlock, unlO, unlI, derefB, D.truth, dNeg]
  | some c =>
    have e : (drops gs).isEmpty = false := by
      cases q : drops gs with
      | nil => rw [q] at h; cases h
      | cons a r => rfl
    have hp := popS_eq (l := l) (s := s) (m := m) (t := .no) h
    have hlen : (drops gs).dropLast.length < sizeLine := by
      rw [List.length_dropLast]; unfold sizeLine; omega
    unfold drawE at hp
    refine ⟨.val (.int c), ?_⟩
    simp only [drawE, ne_nil, e, hp, hdiv, hmod, dInt, List.length_map, hlen, e_bok, e_bexc, e_bno, e_tok, e_texc, e_tno, e_snx, e_srt, e_sbk, e_sct, e_sexc, e_sno, e_getP, e_evE, e_evP, e_evN, e_evC, e_derN, e_derC, e_derBC, e_der, e_derP, e_sArgs, e_sOp, e_sDisp, e_sVar, e_mvVar, e_sC, e_cVal, e_cAnd, e_cOr, e_cNot, e_cTru, e_sAnd, e_sOr, e_sNot, e_sIf, e_bNil, e_bCons, e_bIf, e_bSet, e_bExpr, e_bRet, e_bRetN, e_bPass, e_stS, e_mutS, e_sMut, e_bPar, e_sCallV, e_sCallI, e_itP, e_itAP, e_itAE, e_itSeq, e_itEnum, e_itRng1, e_itRng2, e_oNo, e_oVal, e_oOwn, e_oIo, e_bFor, e_sComp, e_sDeal, e_cYes, kGet, kOpt, kLis, kE, kP, kAs1, kAs, kDer, kOp, kDisp, kVar, kMv, kVal, kAndT, kOrT, kNotT, kTru, kAndE, kOrE, kNotE, kIfE, kIfS, kNx, kSetS, kExp, kSt, kMut, kMut3, kMut2, kMut1, kMutA, kMut0, kPar2, kPar1, kPar0, kFn, kFnO, kCall, kIo, kIoO, kCallI, kCallI0, kItP, kItE, kSeq, kEnum, kForB, kComp1, kComp, kDeal2, kDeal1, kDeal0, List.getElem?_cons_succ, List.getElem?_cons_zero, List.set_cons_zero, List.set_cons_succ, List.length_nil, List.length_cons, Bool.false_and, Bool.and_false, Bool.true_and, Bool.and_true, Bool.not_true, Bool.not_false, Bool.false_eq_true, if_true, if_false, reduceIte, Option.map_some, Option.map_none, Option.bind_some, Option.bind_none, D.seals, D.isB, l1, l2, frz, frzA, oAppend, oPop, oPopAt, oExtend, mTup, mLst, Nat.zero_le, argsVL, ioC, seqOf, okSeq, unlS, unlock, unlO, unlI, derefB, D.truth, dNeg]
    simp
theorem drawB_eq {l : Addr} {gs : List Int} {s m : Int} (hm : 0 < m) (hm2 : m < 2 ^ 63) (hg : gs.length < 64) (h0 : 0 ≤ s) (hs : s < 2147483647) : ∃ z, drawB (drawE l gs s m .no) = .rt (false, .int (drawI gs s m).1) (drawE l (drawI gs s m).2.1 (drawI gs s m).2.2 m z) :=
  drawBp_eq hm hm2 hg (stir_mul h0 hs) mod_b div_32
end
end J

namespace J
open PySem PySem.Spec PyProof.Rows L2

section
variable {P : Program} {w : World} {K : PySem.W.Frag} {mg : Str → Option Value} {base : Heap}
theorem drawEntry {F H : Hp} {a l : Addr} {gs : List Int} {s m : Int} (sub : Same F H) (fa : F a = none) (fl : F l = none) (ha : H a = some (.dK [(Sum.inr "great", .ref l), (Sum.inr "stirred", .int s)])) (hl : H l = some (.lst (gs.map V.int))) :
    EnvOk ⟨K, mg, H, F, [(0, .ref a, [a]), (2, .ref l, [l])], [], []⟩ F H (drawE l gs s m .no) [some (.ref a), some (.int m), some (.ref l), none] := by
  have hne : a ≠ l := fun z => by subst z; rw [ha] at hl; cases hl
  have at' : ∀ b, Gh.at ⟨K, mg, H, F, [(0, .ref a, [a]), (2, .ref l, [l])], [], []⟩ b → b = a ∨ b = l := fun b ⟨p, hp, hb⟩ => by
    rcases List.mem_cons.mp hp with rfl | hp
    · exact .inl (by simpa using hb)
    · rcases List.mem_cons.mp hp with rfl | hp
      · exact .inr (by simpa using hb)
      · cases hp
  refine ⟨sub, .refl _, fun b o h => .inl h, fun b o h _ => h, fun b z => ?_, fun {b} z e => ?_, fun i x t h => (by cases h), fun i t h => ?_, fun p h => (by cases h), rfl, fun i => match i with | 0 => [a] | 2 => [l] | _ => [], ⟨fun i => ?_, fun i j b n hi hb hc => ?_, fun p hp => (by cases hp)⟩⟩
  · rcases at' b z with rfl | rfl
    · exact ⟨fa, _, ha⟩
    · exact ⟨fl, _, hl⟩
  · rcases at' b z with rfl | rfl
    · have e : H b = none := e
      rw [ha] at e; cases e
    · have e : H b = none := e
      rw [hl] at e; cases e
  · exfalso
    obtain ⟨e, o⟩ := h
    match i, e with
    | 0, e => cases e; cases o
    | 1, e => cases e; cases o
    | 2, e => cases e; cases o
    | 3, e => cases e; cases o
    | i + 4, e => cases e
  · match i with
    | 0 => exact ⟨_, rfl, .dealA fa ha, List.mem_cons_self⟩
    | 1 => exact ⟨rfl, _, rfl, .int m⟩
    | 2 => exact ⟨_, rfl, .lst fl hl (Reps.ints gs), List.mem_cons_of_mem _ List.mem_cons_self⟩
    | 3 => exact rfl
    | i + 4 => exact rfl
  · match i, j with
    | 0, 0 => exact n rfl
    | 0, 2 =>
      simp at hb hc
      exact hne (hb.symm.trans hc)
    | 2, 0 =>
      simp at hb hc
      exact hne (hc.symm.trans hb)
    | 2, 2 => exact n rfl
    | 0, 1 => cases hc
    | 2, 1 => cases hc
    | 0, j + 3 => cases hc
    | 2, j + 3 => cases hc
    | 1, _ => cases hb
    | i + 3, _ => cases hb
theorem fnDraw {x qual : Str} {st st1 : Stmt} {rest : List Stmt} {f : Addr} {fd : FuncData} {p0 p1 p2 p3 : Str} {k : Nat} (F : Fun K x qual st f fd) (S : FnScope [p0, p1, p2, p3] [p0, p1] (defScope st)) (hst : defBody st = st1 :: rest)
    (hb : ∀ (cdv : Value) (A : Around) (outer : List PySem.Env) (s : Shared) (H : Hp) (E : XK) (g : Gh), Ctx (cxOf (L2.CX P w) P w K mg base [p0, p1, p2, p3] qual (defScope st) f cdv A outer s H E) k (fun cls d _ H => E cls d H) → Gok (cxOf (L2.CX P w) P w K mg base [p0, p1, p2, p3] qual (defScope st) f cdv A outer s H E) g →
      PS (cxOf (L2.CX P w) P w K mg base [p0, p1, p2, p3] qual (defScope st) f cdv A outer s H E) st1 (tAsg (tDGet (tVar 0) (tC (.str "great"))) (gName 2)) ∧
      PSs (cxOf (L2.CX P w) P w K mg base [p0, p1, p2, p3] qual (defScope st) f cdv A outer s H E) rest (tS g (fun cls d _ H => E cls d H) drawB)) : Fn P w K mg base (k + 1) f fd [p0, p1] (spI K mg [false] drawM) := by
  refine fnRule F S (fun vs H Q E h => ?_) fun cdv A outer s H vs Q E hG hr h => ?_
  · obtain ⟨F0, v0, d0, A, vs', ds, rfl, _, _, h, _⟩ := h
    rw [List.length_cons, h.len.1]; rfl
  · obtain ⟨F0, v0, d0, B, vs', ds, rfl, sub, own, ha, h⟩ := h
    cases ha with
    | val r t =>
      cases t
      rename_i v1 d1
      cases own with
      | deal fa fl ha hl =>
        rename_i a l gs s0
        cases d1 with
        | int m =>
          cases r
          unfold drawM at h
          dsimp only at h
          by_cases hc : 0 < m ∧ m < 2 ^ 63 ∧ gs.length < 64 ∧ 0 ≤ s0 ∧ s0 < 2147483647
          · rw [if_pos hc] at h
            dsimp only at h
            obtain ⟨q1, q2⟩ := hb cdv A outer s H E ⟨K, mg, H, F0, [(0, .ref a, [a]), (2, .ref l, [l])], [], []⟩ ⟨rfl, hG, hr, passes_of rfl, takes_of rfl rfl rfl rfl, S.nd⟩ ⟨rfl, rfl⟩
            have q12 := pss_cons q1 q2
            rw [← hst] at q12
            refine ⟨_, q12, .ref a, rfl, a, .ref l, rfl, .inl ⟨_, Sum.inr "great", .inl ha, rfl, rfl⟩, F0, drawE l gs s0 m .no, drawEntry sub fa fl ha hl, ?_⟩
            obtain ⟨z, e⟩ := drawB_eq (l := l) hc.1 hc.2.1 hc.2.2.1 hc.2.2.2.1 hc.2.2.2.2
            rw [e]
            intro v σ' F' H' A' u
            have E' := A'.env
            have inA : ∀ b, Gh.at ⟨K, mg, H, F0, [(0, .ref a, [a]), (2, .ref l, [l])], [], []⟩ b → b ∈ [a, l] := fun b ⟨p, hp, hb⟩ => by
              rcases List.mem_cons.mp hp with rfl | hp
              · simp at hb; simp [hb]
              · rcases List.mem_cons.mp hp with rfl | hp
                · simp at hb; simp [hb]
                · cases hp
            refine h v H' F' (Post.of E' inA) ?_ A'.resC
            obtain ⟨fp, S'⟩ := E'.fps
            have o0 := S'.ok 0
            have o2 := S'.ok 2
            obtain ⟨x0, h0, w0, i0⟩ := o0
            obtain ⟨x2, h2, w2, i2⟩ := o2
            have e0 : x0 = .ref a ∧ fp 0 = [a] := by
              rcases List.mem_cons.mp i0 with z | z
              · simp at z; exact z
              · simp at z
            have e2 : x2 = .ref l ∧ fp 2 = [l] := by
              rcases List.mem_cons.mp i2 with z | z
              · simp at z
              · simp at z; exact z
            obtain ⟨rfl, e0⟩ := e0
            obtain ⟨rfl, e2⟩ := e2
            rw [e0] at w0
            rw [e2] at w2
            obtain ⟨ff, hh⟩ : F' l = none ∧ H' l = some (.lst ((drawI gs s0 m).2.1.map V.int)) := by
              obtain ⟨vs, hv, rv⟩ := w2.asLst rfl
              rw [reps_ints rv] at hv
              exact ⟨(w2.there l (by simp)).1, hv⟩
            cases w0 with
            | dealA fa' ha' => exact .deal fa' ff ha' hh
          · rw [if_neg hc] at h; exact h.elim
        | _ => unfold drawM at h; exact h.elim
      | _ => unfold drawM at h; exact h.elim
end
end J

namespace J
open PySem PySem.Spec PyProof.Rows L2

/-! ## the law's call, at the place where the program calls it -/
theorem scr_seen {K : PySem.W.Frag} {F H : Hp} {a : Addr} {ns : List Int} {mg : Str → Option Value} (h : SqL K H a (ns.map V.int)) : Rep K mg H (.ref a) (.scr ns) := .scr h
/-- what the law's def promises for a script -/
def spL (K : PySem.W.Frag) (mg : Str → Option Value) (n : Nat) (b : Bool) : Sp := spV K mg [b] fun ds => match ds with
  | [.scr ns] => if ns.length ≤ n then .ok (false, .bl true) .non else .no
  | _ => .no
section
variable {P : Program} {w : World} {K : PySem.W.Frag} {mg mb : Str → Option Value} {k n : Nat} {b : Bool} {fa a : Addr} {fd : FuncData} {x : Str} {s : Shared} {vs : List Value} {ns : List Int}
theorem Fn.law {base : Heap} {f : Addr} {ps : List Str} {m : List D → RF} (F : Fn P w K mg base k f fd ps (spV K mg [b] m)) (h : ∀ ns : List Int, ns.length ≤ n → ∃ o, m [.scr ns] = .ok (false, .bl true) o) : Fn P w K mg base k f fd ps (spL K mg n b) := by
  have key : ∀ vs H Q E, spL K mg n b vs H Q E → spV K mg [b] m vs H Q E := fun vs H Q E ⟨F0, ds, s, ha, q⟩ => by
    refine ⟨F0, ds, s, ha, ?_⟩
    match ds, q with
    | [.scr ns], q =>
      dsimp only at q
      by_cases z : ns.length ≤ n
      · rw [if_pos z] at q
        obtain ⟨o, e⟩ := h ns z
        rw [e]
        exact q
      · rw [if_neg z] at q; exact q.elim
    | [], q => exact q.elim
    | [.non], q => exact q.elim
    | [.bl _], q => exact q.elim
    | [.int _], q => exact q.elim
    | [.str _], q => exact q.elim
    | [.tup _], q => exact q.elim
    | [.lst _], q => exact q.elim
    | [.dic _], q => exact q.elim
    | [.ins _ _], q => exact q.elim
    | [.deal _ _], q => exact q.elim
    | [.dealA _ _], q => exact q.elim
    | d :: _ :: _, q => cases d <;> exact q.elim
  exact ⟨fun vs H Q E q => F.len vs H Q E (key _ _ _ _ q), fun A outer s H as us vs Q E hG hr he hb hv hs => F.run A outer s H as us vs Q E hG hr he hb hv (key _ _ _ _ hs)⟩
/-- from an abstract heap H that knows of the script alone -/
theorem law_from {H : Hp} (KX : K.In s.heap) (hns : s.heap.Ns mainGlobals mg) (hb : s.heap.Ns builtinsNs mb) (hbb : ∀ x : Str, x ≠ "__name__" → mb x = bootBuiltins x) (hlim : s.heap.NoLimit) (hg : s.gens = #[])
    (F : ∀ base : Heap, K.In base → base.Ns mainGlobals mg → Fn P w K mg base k fa fd [x] (spL K mg n b)) (bind : ∀ (s : Shared) (u : Value), BindsTo s fd ⟨[u], []⟩ [(x, u)]) (room : Room k callerA) (few : ns.length ≤ n)
    (ob : s.heap.get? a = some { cls := .type "list", data := .seq vs.toArray }) (seen : SqL K H a (ns.map V.int)) (hok : HOk P w H s.heap) (alone : ∀ b, H b ≠ none → b = a ∧ K.lookup a = none ∧ ∃ o xs, H b = some (.frz o (.lst xs))) :
    codeAny (model P w) callerA (.call (.ref fa) ⟨[.ref a], []⟩) (fun r s' => r = .ok (.ret (.bool true)) ∧ OldK s.heap s'.heap ∧ s'.os = s.os ∧ AllBare s'.gens) s := by
  have free : ∀ {b : Addr} {o : Obj}, s.heap.get? b = some o → (b = a → ∃ es ep, o.data = .dict es ep) → H b = none := fun {b o} e z => by
    cases q : H b with
    | none => rfl
    | some u =>
      obtain ⟨rfl, _⟩ := alone b (by rw [q]; exact fun z => by cases z)
      obtain ⟨es, ep, d⟩ := z rfl
      rw [ob] at e
      cases e
      cases (show Data.seq vs.toArray _ = Data.dict es ep from d)
  have names : ∀ {b : Addr} {m : Str → Option Value}, s.heap.Ns b m → (hidT s.heap H).Ns b m := fun {b m} ⟨o, es, ep, e, d, r⟩ => ⟨o, es, ep, hidT_get e (free e fun _ => ⟨es, ep, d⟩), d, r⟩
  have inK : K.In (hidT s.heap H) := fun b o e => hidT_get (KX b o e) (by
    cases q : H b with
    | none => rfl
    | some u =>
      obtain ⟨rfl, z, _⟩ := alone b (by rw [q]; exact fun z => by cases z)
      rw [z] at e; cases e)
  have e0 : Env0 P w K mg (hidT s.heap H) callerA [] s H := ⟨rfl, ⟨inK, names hns, ⟨mb, names hb, hbb⟩, let ⟨mc, h1, h2⟩ := hlim; ⟨mc, names h1, h2⟩⟩, fun b o => of_hidT, Nat.le_of_eq (hidT_size _ _), trivial, fun b (hb : b ∈ ([] : List Addr)) => (by cases hb), hok, .of_eq hg⟩
  have post : spL K mg n b [.ref a] H (fun v _ => v = .bl true) fun _ _ _ => False := by
    refine ⟨H, [.scr ns], .refl _, (by cases b; exact .val (.scr seen) .nil; exact .rep (.scr seen) .nil), ?_⟩
    dsimp only
    rw [if_pos few]
    intro v H' F' _ r
    have r : Rep K mg F' v (.bl true) := r
    cases r; rfl
  refine codeAny_mono ((F _ inK (names hns)).run callerA [] s H ⟨[.ref a], []⟩ [.ref a] [.ref a] _ _ rfl room e0 (bind s (.ref a)) (.cons rfl .nil) post) fun r s' h => ?_
  match r, h with
  | .error e, h =>
    obtain ⟨_, _, _, _, _, _, _, _, _, _, _, _, z⟩ := (show L2.CX P w [] H s (fun _ _ _ => False) e s' from h)
    exact False.elim z
  | .ok (.ret u), ⟨v, H', os, bare, un, hok', r', (q : v = .bl true)⟩ =>
    subst q
    obtain rfl : u = Value.bool true := r'
    refine ⟨rfl, OldK.of_keep fun b o e => ?_, os, bare⟩
    cases q : H b with
    | none => exact un.keep b o e q (fun (z : b ∈ ([] : List Addr)) => by cases z) (by simp)
    | some u =>
      obtain ⟨_, _, o1, xs, z⟩ := alone b (by rw [q]; exact fun z => by cases z)
      obtain ⟨e1, _⟩ := hok b _ z
      obtain ⟨e2, _⟩ := hok' b _ (un.frzs b o1 _ z)
      rw [e] at e1; cases e1
      exact e2
  | .ok .next, h => exact False.elim h
  | .ok .brk, h => exact False.elim h
  | .ok .cont, h => exact False.elim h
theorem law_at (KX : K.In s.heap) (hns : s.heap.Ns mainGlobals mg) (hb : s.heap.Ns builtinsNs mb) (hbb : ∀ x : Str, x ≠ "__name__" → mb x = bootBuiltins x) (hlim : s.heap.NoLimit) (hg : s.gens = #[])
    (F : ∀ base : Heap, K.In base → base.Ns mainGlobals mg → Fn P w K mg base k fa fd [x] (spL K mg n b)) (bind : ∀ (s : Shared) (u : Value), BindsTo s fd ⟨[u], []⟩ [(x, u)]) (room : Room k callerA) (few : ns.length ≤ n) (small : n ≤ sizeLine)
    (ob : s.heap.get? a = some { cls := .type "list", data := .seq vs.toArray }) (whole : IntsAre vs ns) :
    codeAny (model P w) callerA (.call (.ref fa) ⟨[.ref a], []⟩) (fun r s' => r = .ok (.ret (.bool true)) ∧ OldK s.heap s'.heap ∧ s'.os = s.os ∧ AllBare s'.gens) s := by
  have rv := vals_ints whole
  have le : vs.length ≤ sizeLine := by rw [whole.length]; omega
  have le2 : (ns.map V.int).length ≤ sizeLine := by rw [List.length_map]; omega
  by_cases hk : K.lookup a = none
  · let o : Obj := { cls := .type "list", data := .seq vs.toArray }
    let H : Hp := fun b => if b = a then some (.frz o (.lst (ns.map V.int))) else none
    have Ha : H a = some (.frz o (.lst (ns.map V.int))) := if_pos rfl
    have Hb : ∀ {b u}, H b = some u → b = a ∧ u = .frz o (.lst (ns.map V.int)) := fun {b u} q => by
      by_cases z : b = a
      · subst z; rw [Ha] at q; cases q; exact ⟨rfl, rfl⟩
      · rw [show H b = none from if_neg z] at q; cases q
    refine law_from (H := H) KX hns hb hbb hlim hg F bind room few ob (.inl (.inr ⟨o, Ha⟩)) (fun b u q => ?_) fun b q => ?_
    · obtain ⟨rfl, rfl⟩ := Hb q
      exact ⟨ob, le2, vs, _, rv, ob⟩
    · cases e : H b with
      | none => exact absurd e q
      | some u =>
        obtain ⟨rfl, rfl⟩ := Hb e
        exact ⟨rfl, hk, o, _, rfl⟩
  · cases e : K.lookup a with
    | none => exact absurd e hk
    | some o =>
      have eo := KX a o e
      rw [ob] at eo
      cases eo
      refine law_from (H := fun _ => none) KX hns hb hbb hlim hg F bind room few ob (.inr ⟨_, vs.toArray, _, e, rfl, rfl, rfl, by rw [List.size_toArray]; exact le, by simpa using rv⟩) (fun b u q => ?_) fun b q => absurd rfl q
      cases (show (none : Option HO) = some u from q)
end
theorem walkF {l : PySem.W.OpenLaw} {n k : Nat} {b : Bool} {q : Program} {loose : List Str} {XP : (Str → Option Value) → Heap → Prop} {YP : World → Heap → Prop} {d : DefRec} {K : Params → PySem.W.Frag} {x : Str} (most : l.most = some n) (small : n ≤ sizeLine) (nodef : d.params.defaults = []) (room : Room k callerA)
    (inK : ∀ (w : World) (h : Heap), YP w h → (K w.params).In h)
    (F : ∀ (w : World) (mg : Str → Option Value) (fa : Addr) (h : Heap), (K w.params).In h → h.Ns mainGlobals mg → mg d.name = some (.ref fa) → ∃ fd : FuncData, (∀ (s : Shared) (u : Value), BindsTo s fd ⟨[u], []⟩ [(x, u)]) ∧
      ∀ base : Heap, (K w.params).In base → base.Ns mainGlobals mg → Fn l.prog w (K w.params) mg base k fa fd [x] (spL (K w.params) mg n b)) : PySem.W.WalkO q loose XP YP l.row.toRowW d [] fun f vs => PySem.call f vs := by
  refine Att.attach_call most nodef fun w s₀ s₁ mg mb fa o pm cd doc a vs ns G Y ho hd hcd hmg hobj hints few hg => ?_
  have KX := inK w _ Y
  obtain ⟨fd, bind, Fl⟩ := F w mg fa _ KX G.T.g hmg
  exact law_at KX G.T.g G.T.b G.T.builtins G.T.nolimit hg Fl bind room few small hobj hints
end J

namespace J
open PySem PySem.Spec PyProof.Rows L2

/-! ## texts in order -/
def sLt (x y : Str) : Prop := x.cps.toList < y.cps.toList
instance (x y : Str) : Decidable (sLt x y) := by unfold sLt; infer_instance
theorem sLt_irr (x : Str) : ¬ sLt x x := List.lt_irrefl _
theorem sLt_trans {x y z : Str} (h : sLt x y) (q : sLt y z) : sLt x z := List.lt_trans h q
theorem str_ext {x y : Str} (h : x.cps.toList = y.cps.toList) : x = y := by
  obtain ⟨a⟩ := x
  obtain ⟨b⟩ := y
  have : a = b := Array.toList_inj.mp h
  rw [this]
theorem sLt_tri {x y : Str} (h : ¬ sLt x y) (q : ¬ sLt y x) : x = y := str_ext (List.le_antisymm (List.not_lt.mp q) (List.not_lt.mp h))
theorem sLe_trans {x y z : Str} (h : ¬ sLt y x) (q : ¬ sLt z y) : ¬ sLt z x := fun k => by
  by_cases e : sLt x y
  · exact q (sLt_trans k e)
  · rw [sLt_tri e h] at k
    exact q k
theorem rising_pw : ∀ {l : List Str} {x : Str}, risingS x l = true → (x :: l).Pairwise fun a b => ¬ sLt b a
  | [], x, _ => List.pairwise_singleton _ _
  | y :: r, x, h => by
    have h : (!ltCps y.cps.toList x.cps.toList && risingS y r) = true := h
    rw [Bool.and_eq_true, ltCps_eq, Bool.not_eq_true', decide_eq_false_iff_not] at h
    have ih := rising_pw h.2
    refine List.Pairwise.cons (fun z hz => ?_) ih
    rcases List.mem_cons.mp hz with rfl | hz
    · exact h.1
    · exact sLe_trans (y := y) h.1 ((List.pairwise_cons.mp ih).1 z hz)
theorem sorted_pw {l : List Str} (h : sortedS l = true) : l.Pairwise fun a b => ¬ sLt b a := by
  cases l with
  | nil => exact .nil
  | cons x r => exact rising_pw h
/-- put into a row in order -/
def insS (x : Str) : List Str → List Str
  | [] => [x]
  | y :: r => if sLt y x then y :: insS x r else x :: y :: r
def ssort : List Str → List Str
  | [] => []
  | x :: r => insS x (ssort r)
def insU (x : Str) : List Str → List Str
  | [] => [x]
  | y :: r => if x = y then y :: r else if sLt y x then y :: insU x r else x :: y :: r
/-- each once, in order -/
def sset : List Str → List Str
  | [] => []
  | x :: r => insU x (sset r)
theorem insS_perm (x : Str) : ∀ l, (insS x l).Perm (x :: l)
  | [] => .refl _
  | y :: r => by
    unfold insS
    split
    · exact (List.Perm.cons y (insS_perm x r)).trans (.swap x y r)
    · exact .refl _
theorem ssort_perm : ∀ l, (ssort l).Perm l
  | [] => .refl _
  | x :: r => (insS_perm x _).trans (.cons x (ssort_perm r))
theorem insS_pw {x : Str} : ∀ {l : List Str}, (l.Pairwise fun a b => ¬ sLt b a) → (insS x l).Pairwise fun a b => ¬ sLt b a
  | [], _ => List.pairwise_singleton _ _
  | y :: r, h => by
    obtain ⟨h1, h2⟩ := List.pairwise_cons.mp h
    unfold insS
    split
    · rename_i z
      refine .cons (fun u hu => ?_) (insS_pw h2)
      rcases List.mem_cons.mp ((insS_perm x r).mem_iff.mp hu) with rfl | hu
      · exact fun k => sLt_irr _ (sLt_trans k z)
      · exact h1 u hu
    · rename_i z
      refine .cons (fun u hu => ?_) h
      rcases List.mem_cons.mp hu with rfl | hu
      · exact z
      · exact sLe_trans z (h1 u hu)
theorem ssort_pw : ∀ l, (ssort l).Pairwise fun a b => ¬ sLt b a
  | [] => .nil
  | _ :: r => insS_pw (ssort_pw r)
theorem perm_pw_eq : ∀ {l m : List Str}, l.Perm m → (l.Pairwise fun a b => ¬ sLt b a) → (m.Pairwise fun a b => ¬ sLt b a) → l = m
  | [], m, p, _, _ => (List.nil_perm.mp p).symm
  | x :: r, [], p, _, _ => by cases List.perm_nil.mp p
  | x :: r, y :: t, p, h, q => by
    obtain ⟨h1, h2⟩ := List.pairwise_cons.mp h
    obtain ⟨q1, q2⟩ := List.pairwise_cons.mp q
    have e : x = y := by
      have hx := p.mem_iff.mp (List.mem_cons_self (a := x))
      have hy := p.mem_iff.mpr (List.mem_cons_self (a := y))
      rcases List.mem_cons.mp hx with e | hx
      · exact e
      · rcases List.mem_cons.mp hy with e | hy
        · exact e.symm
        · exact sLt_tri (q1 x hx) (h1 y hy)
    subst e
    rw [perm_pw_eq (List.Perm.cons_inv p) h2 q2]
theorem ssort_eq {l m : List Str} (p : l.Perm m) (h : sortedS l = true) : l = ssort m := perm_pw_eq (p.trans (ssort_perm m).symm) (sorted_pw h) (ssort_pw m)
theorem insU_mem {x z : Str} : ∀ {l : List Str}, z ∈ insU x l ↔ z = x ∨ z ∈ l
  | [] => by simp [insU]
  | y :: r => by
    unfold insU
    split
    · rename_i e; subst e; simp
    · split
      · rw [List.mem_cons, insU_mem (l := r), List.mem_cons]
        constructor
        · rintro (h | h | h)
          · exact .inr (.inl h)
          · exact .inl h
          · exact .inr (.inr h)
        · rintro (h | h | h)
          · exact .inr (.inl h)
          · exact .inl h
          · exact .inr (.inr h)
      · rw [List.mem_cons]
theorem sset_mem {z : Str} : ∀ {l : List Str}, z ∈ sset l ↔ z ∈ l
  | [] => Iff.rfl
  | x :: r => by
    show z ∈ insU x (sset r) ↔ _
    rw [insU_mem, sset_mem, List.mem_cons]
theorem insU_pw {x : Str} : ∀ {l : List Str}, l.Pairwise sLt → (insU x l).Pairwise sLt
  | [], _ => List.pairwise_singleton _ _
  | y :: r, h => by
    obtain ⟨h1, h2⟩ := List.pairwise_cons.mp h
    unfold insU
    split
    · exact h
    · rename_i ne
      split
      · rename_i z
        refine .cons (fun u hu => ?_) (insU_pw h2)
        rcases insU_mem.mp hu with rfl | hu
        · exact z
        · exact h1 u hu
      · rename_i z
        have z2 : sLt x y := by
          by_cases k : sLt x y
          · exact k
          · exact absurd (sLt_tri k z) ne
        refine .cons (fun u hu => ?_) h
        rcases List.mem_cons.mp hu with rfl | hu
        · exact z2
        · exact sLt_trans z2 (h1 u hu)
theorem sset_pw : ∀ l, (sset l).Pairwise sLt
  | [] => .nil
  | _ :: r => insU_pw (sset_pw r)
theorem pw_le {l : List Str} (h : l.Pairwise sLt) : l.Pairwise fun a b => ¬ sLt b a := h.imp fun h k => sLt_irr _ (sLt_trans h k)
theorem pw_nodup {l : List Str} (h : l.Pairwise sLt) : l.Nodup := h.imp fun {a b} (h : sLt a b) (e : a = b) => by subst e; exact sLt_irr _ h
theorem sset_eq {l m xs : List Str} (p : l.Perm m) (nd : m.Nodup) (h : sortedS l = true) (hm : ∀ x, x ∈ m ↔ x ∈ xs) : l = sset xs :=
  perm_pw_eq (p.trans ((List.perm_ext_iff_of_nodup nd (pw_nodup (sset_pw xs))).mpr fun x => (hm x).trans sset_mem.symm)) (sorted_pw h) (pw_le (sset_pw xs))
theorem sset_len (l : List Str) : (sset l).length ≤ l.length := by
  induction l with
  | nil => exact Nat.le_refl _
  | cons x r ih =>
    have key : ∀ m : List Str, (insU x m).length ≤ m.length + 1 := fun m => by
      induction m with
      | nil => exact Nat.le_refl _
      | cons y t ih =>
        unfold insU
        split
        · exact Nat.le_succ _
        · split
          · rw [List.length_cons, List.length_cons]; omega
          · exact Nat.le_refl _
    have := key (sset r)
    rw [List.length_cons]
    exact Nat.le_trans this (by omega)

/-! ## sorted, sorted(set(..)) -/
def D.strs : List D → Option (List Str)
  | [] => some []
  | .str x :: r => (D.strs r).map (x :: ·)
  | _ :: _ => none
theorem strs_eq {l : List D} {gs : List Str} (h : D.strs l = some gs) : l = gs.map D.str := by
  induction l generalizing gs with
  | nil => cases h; rfl
  | cons d r ih =>
    cases d with
    | str i =>
      obtain ⟨g, h2, rfl⟩ := Option.map_eq_some_iff.mp (show (D.strs r).map (i :: ·) = some gs from h)
      rw [ih h2]; rfl
    | _ => cases h
theorem strs_map : ∀ gs : List Str, D.strs (gs.map D.str) = some gs
  | [] => rfl
  | g :: gs => by show (D.strs (gs.map D.str)).map (g :: ·) = _; rw [strs_map gs]; rfl
theorem reps_strs {K : PySem.W.Frag} {mg : Str → Option Value} {F : Hp} : ∀ {gs : List Str} {vs : List V}, Reps K mg F vs (gs.map D.str) → vs = gs.map V.str
  | [], vs, h => by cases h; rfl
  | g :: gs, vs, h => by
    cases h with
    | cons r t => cases r; rw [reps_strs t]; rfl
def dSorted : D → Option (Bool × D)
  | .lst l => (D.strs l).bind fun xs => if xs.length < 64 then some (true, .lst ((ssort xs).map D.str)) else none
  | _ => none
def dSSet : D → Option (Bool × D)
  | .lst l => (D.strs l).bind fun xs => if xs.length < 64 then some (true, .lst ((sset xs).map D.str)) else none
  | .tup l => (D.strs l).bind fun xs => if xs.length < 64 then some (true, .lst ((sset xs).map D.str)) else none
  | _ => none
section
variable {X : Cx} {g : Gh}
theorem os_sorted : OpS g (rSortedS g.K) (l1 dSorted) := .one fun F H x a c Q s p e k => by
  unfold dSorted at e
  split at e
  · rename_i l
    obtain ⟨xs, e1, e2⟩ := Option.bind_eq_some_iff.mp e
    obtain ⟨few, rfl⟩ := guard_eq e2
    obtain rfl := strs_eq e1
    obtain ⟨b, us, rfl, hb, rb⟩ := p.lst s
    obtain rfl := reps_strs rb
    exact ⟨b, xs, rfl, .inl (.inl hb), few, fun ys q pm st hq => by
      rw [ssort_eq pm st]
      exact k.lst s (Reps.strs _) hq⟩
  · cases e
/-- sorted(set(..)) as one -/
def rSSet (K : PySem.W.Frag) : List V → Hp → VK → Prop := fun vs H Q => ∃ (b : Addr) (xs : List Str), vs = [.ref b] ∧ (SqL K H b (xs.map V.str) ∨ SqT K H b (xs.map V.str)) ∧ xs.length < 64 ∧ ∀ a p o, H a = none → upd H a o p = none → Q (.ref p) (upd (upd H a o) p (.lst ((sset xs).map V.str)))
theorem rSSet_run {P : Program} {w : World} {K : PySem.W.Frag} {vs : List V} {H : Hp} {Q : VK} (h : rSSet K vs H Q) : rSetS K P w vs H fun x H1 => rSortedTS P w [x] H1 Q := by
  obtain ⟨b, xs, rfl, sq, few, q⟩ := h
  refine ⟨b, xs, rfl, sq, by unfold scanBound; omega, fun a l hn nd hl => ⟨a, l, rfl, upd_same, ?_, fun ys p pm _ st hp => ?_⟩⟩
  · have pl : l.Perm (sset xs) := (List.perm_ext_iff_of_nodup nd (pw_nodup (sset_pw xs))).mpr fun x => (hl x).trans sset_mem.symm
    rw [pl.length_eq]
    exact Nat.lt_of_le_of_lt (sset_len xs) few
  · rw [sset_eq pm nd st hl]
    exact q a p _ hn hp
theorem os_sset : OpS g (rSSet g.K) (l1 dSSet) := .one fun F H x a c Q s p e k => by
  have key : ∀ (l : List D) (b : Addr) (us : List V), x = .ref b → (SqL g.K H b us ∨ SqT g.K H b us) → Reps g.K g.mg F us l → ((D.strs l).bind fun xs => if xs.length < 64 then some (true, D.lst ((sset xs).map D.str)) else none) = some c → rSSet g.K [x] H Q := fun l b us hx hb rb e => by
    obtain ⟨xs, e1, e2⟩ := Option.bind_eq_some_iff.mp e
    obtain ⟨few, rfl⟩ := guard_eq e2
    obtain rfl := strs_eq e1
    obtain rfl := reps_strs rb
    refine ⟨b, xs, by rw [hx], hb, few, fun a q o hn hq => ?_⟩
    have hq0 : H q = none := by
      by_cases z : q = a
      · rw [z]; exact hn
      · rw [upd_ne z] at hq; exact hq
    have hqa : q ≠ a := fun z => by rw [z, upd_same] at hq; cases hq
    have n : New F H F (upd (upd H a o) q (.lst ((sset xs).map V.str))) := by
      have u1 := same_upd (o := o) hn
      have u2 := same_upd (o := HO.lst ((sset xs).map V.str)) hq
      exact ⟨.refl _, u1.trans u2, s.trans (u1.trans u2), fun _ _ e => .inl e⟩
    exact k _ _ F n ⟨[q], .lst (free_of s hq0) upd_same (Reps.strs _), fun a ha => by simp at ha; subst ha; exact hq0⟩
  unfold dSSet at e
  split at e
  · obtain ⟨b, us, hx, hb, rb⟩ := p.lst s
    exact key _ b us hx (.inl (.inl (.inl hb))) rb e
  · obtain ⟨b, us, hx, fb, hb, rb⟩ := p.tup s
    exact key _ b us hx (.inr hb) rb e
  · cases e
theorem jSSet {W : WX} {e : Expr} {sa : SArg} {p1 p2 q pos : Pos} (hc : X.calm = true) (G : Gok X g) (g1 : Gl X "sorted") (m1 : X.mg "sorted" = none) (g2 : Gl X "set") (m2 : X.mg "set" = none) (h : PE X e (tArg g W sa))
    (s0 : starEach [e] X.env = (false, eval e X.env) :: starEach [] X.env := by rfl) (s1 : starEach [.Call (.Name "set" p2) [e] [] q] X.env = (false, eval (.Call (.Name "set" p2) [e] [] q) X.env) :: starEach [] X.env := by rfl) :
    PE X (.Call (.Name "sorted" p1) [.Call (.Name "set" p2) [e] [] q] [] pos) (tE g W (sOp (l1 dSSet) [sa])) :=
  PEimp (pe_callB (cr_sortedTS hc) g1 m1 (by rfl) (pa_cons (pe_callTy (cr_setS hc) g2 m2 (by rfl) (a1 h a0 s0) (by decide) (by decide) s0 (by rfl)) pa_nil s1) (by decide) (by decide) s1 (by rfl)) fun σ H Q h => by
    exact tArg_mono (op_run (os_sset (g := g)) h) fun v H1 q => by rw [G.K]; exact rSSet_run q
end
end J

namespace J
open PySem PySem.Spec PyProof.Rows L2

section
variable {X : Cx} {k : Nat} {g : Gh} {W : WX} {pos p : Pos} {a b e : Expr} {sa sb : SArg}
theorem Ctx.u64 (c : Ctx X k W) : X.A.units + 64 < cLine := by have := c.room.un; omega
theorem Ctx.u1 (c : Ctx X k W) : X.A.units + 1 < cLine := by have := c.room.un; omega
theorem Ctx.blk (c : Ctx X k W) {s : Shared} {H : Hp} {sc : Scope} {cenv : PySem.Env} {fp : List Addr} : Ctx (X.blk s H sc cenv fp) k W0 :=
  ⟨c.calm, c.grd, c.room, PassesOwn.never, fun u s' ⟨_, _, _, _, _, _, _, _, _, _, _, _, _, _, _, _, z⟩ => z.elim, c.nd⟩
theorem Gok.blk {s : Shared} {H : Hp} {sc : Scope} {cenv : PySem.Env} {fp : List Addr} (G : Gok X g) : Gok (X.blk s H sc cenv fp) g := ⟨G.K, G.mg⟩

theorem jAdd (G : Gok X g) (ha : PE X a (tArg g W sa)) (hb : PE X b (tArg g W sb)) : PE X (.BinOp a .Add b pos) (tE g W (sOp (l2 dAdd) [sa, sb])) := jbin or_add (by rw [G.K]; exact os_add) ha hb
theorem jSub (G : Gok X g) (ha : PE X a (tArg g W sa)) (hb : PE X b (tArg g W sb)) : PE X (.BinOp a .Sub b pos) (tE g W (sOp (l2 dSub) [sa, sb])) := jbin op_sub os_sub ha hb
theorem jMult (G : Gok X g) (ha : PE X a (tArg g W sa)) (hb : PE X b (tArg g W sb)) : PE X (.BinOp a .Mult b pos) (tE g W (sOp (l2 dMul) [sa, sb])) := jbin op_mulX os_mul ha hb
theorem jFloorDiv (G : Gok X g) (ha : PE X a (tArg g W sa)) (hb : PE X b (tArg g W sb)) : PE X (.BinOp a .FloorDiv b pos) (tE g W (sOp (l2 dDiv) [sa, sb])) := jbin op_fdivW os_div ha hb
theorem jMod (G : Gok X g) (ha : PE X a (tArg g W sa)) (hb : PE X b (tArg g W sb)) : PE X (.BinOp a .Mod b pos) (tE g W (sOp (l2 dMod) [sa, sb])) := jbin op_mod os_mod ha hb
theorem jPow (G : Gok X g) (ha : PE X a (tArg g W sa)) (hb : PE X b (tArg g W sb)) : PE X (.BinOp a .Pow b pos) (tE g W (sOp (l2 dPow) [sa, sb])) := jbin op_pow os_pow ha hb
theorem jLShift (G : Gok X g) (ha : PE X a (tArg g W sa)) (hb : PE X b (tArg g W sb)) : PE X (.BinOp a .LShift b pos) (tE g W (sOp (l2 dShl) [sa, sb])) := jbin op_shlW os_shl ha hb
theorem jRShift (G : Gok X g) (ha : PE X a (tArg g W sa)) (hb : PE X b (tArg g W sb)) : PE X (.BinOp a .RShift b pos) (tE g W (sOp (l2 dShr) [sa, sb])) := jbin op_shr os_shr ha hb
theorem jBitAnd (G : Gok X g) (ha : PE X a (tArg g W sa)) (hb : PE X b (tArg g W sb)) : PE X (.BinOp a .BitAnd b pos) (tE g W (sOp (l2 dAnd) [sa, sb])) := jbin op_and os_and ha hb
theorem jBitOr (G : Gok X g) (ha : PE X a (tArg g W sa)) (hb : PE X b (tArg g W sb)) : PE X (.BinOp a .BitOr b pos) (tE g W (sOp (l2 dOr) [sa, sb])) := jbin op_or os_or ha hb
theorem jBitXor (G : Gok X g) (ha : PE X a (tArg g W sa)) (hb : PE X b (tArg g W sb)) : PE X (.BinOp a .BitXor b pos) (tE g W (sOp (l2 dXor) [sa, sb])) := jbin op_xor os_xor ha hb
theorem jEq (c : Ctx X k W) (G : Gok X g) (ha : PE X a (tArg g W sa)) (hb : PE X b (tArg g W sb)) (hm : behindInMarks .Eq b = false := by rfl) : PE X (.Compare a [.Eq] [b] pos) (tE g W (sOp (l2 dEq) [sa, sb])) := jcmp (op_eqD c.u64) (by rw [G.K]; exact os_eq) ha hb hm
theorem tEq (c : Ctx X k W) (G : Gok X g) (ha : PE X a (tArg g W sa)) (hb : PE X b (tArg g W sb)) (hm : behindInMarks .Eq b = false := by rfl) : PT X (.Compare a [.Eq] [b] pos) (tT g W (cVal (sOp (l2 dEq) [sa, sb]))) := tCmp (op_eqD c.u64) (by rw [G.K]; exact os_eq) ha hb hm
theorem jNotEq (c : Ctx X k W) (G : Gok X g) (ha : PE X a (tArg g W sa)) (hb : PE X b (tArg g W sb)) (hm : behindInMarks .NotEq b = false := by rfl) : PE X (.Compare a [.NotEq] [b] pos) (tE g W (sOp (l2 dNe) [sa, sb])) := jcmp (op_neD c.u64) (by rw [G.K]; exact os_ne) ha hb hm
theorem tNotEq (c : Ctx X k W) (G : Gok X g) (ha : PE X a (tArg g W sa)) (hb : PE X b (tArg g W sb)) (hm : behindInMarks .NotEq b = false := by rfl) : PT X (.Compare a [.NotEq] [b] pos) (tT g W (cVal (sOp (l2 dNe) [sa, sb]))) := tCmp (op_neD c.u64) (by rw [G.K]; exact os_ne) ha hb hm
theorem jLt (c : Ctx X k W) (G : Gok X g) (ha : PE X a (tArg g W sa)) (hb : PE X b (tArg g W sb)) (hm : behindInMarks .Lt b = false := by rfl) : PE X (.Compare a [.Lt] [b] pos) (tE g W (sOp (l2 dLt) [sa, sb])) := jcmp op_lt os_lt ha hb hm
theorem tLt (c : Ctx X k W) (G : Gok X g) (ha : PE X a (tArg g W sa)) (hb : PE X b (tArg g W sb)) (hm : behindInMarks .Lt b = false := by rfl) : PT X (.Compare a [.Lt] [b] pos) (tT g W (cVal (sOp (l2 dLt) [sa, sb]))) := tCmp op_lt os_lt ha hb hm
theorem jLtE (c : Ctx X k W) (G : Gok X g) (ha : PE X a (tArg g W sa)) (hb : PE X b (tArg g W sb)) (hm : behindInMarks .LtE b = false := by rfl) : PE X (.Compare a [.LtE] [b] pos) (tE g W (sOp (l2 dLe) [sa, sb])) := jcmp op_le os_le ha hb hm
theorem tLtE (c : Ctx X k W) (G : Gok X g) (ha : PE X a (tArg g W sa)) (hb : PE X b (tArg g W sb)) (hm : behindInMarks .LtE b = false := by rfl) : PT X (.Compare a [.LtE] [b] pos) (tT g W (cVal (sOp (l2 dLe) [sa, sb]))) := tCmp op_le os_le ha hb hm
theorem jGt (c : Ctx X k W) (G : Gok X g) (ha : PE X a (tArg g W sa)) (hb : PE X b (tArg g W sb)) (hm : behindInMarks .Gt b = false := by rfl) : PE X (.Compare a [.Gt] [b] pos) (tE g W (sOp (l2 dGt) [sa, sb])) := jcmp op_gt os_gt ha hb hm
theorem tGt (c : Ctx X k W) (G : Gok X g) (ha : PE X a (tArg g W sa)) (hb : PE X b (tArg g W sb)) (hm : behindInMarks .Gt b = false := by rfl) : PT X (.Compare a [.Gt] [b] pos) (tT g W (cVal (sOp (l2 dGt) [sa, sb]))) := tCmp op_gt os_gt ha hb hm
theorem jGtE (c : Ctx X k W) (G : Gok X g) (ha : PE X a (tArg g W sa)) (hb : PE X b (tArg g W sb)) (hm : behindInMarks .GtE b = false := by rfl) : PE X (.Compare a [.GtE] [b] pos) (tE g W (sOp (l2 dGe) [sa, sb])) := jcmp op_ge os_ge ha hb hm
theorem tGtE (c : Ctx X k W) (G : Gok X g) (ha : PE X a (tArg g W sa)) (hb : PE X b (tArg g W sb)) (hm : behindInMarks .GtE b = false := by rfl) : PT X (.Compare a [.GtE] [b] pos) (tT g W (cVal (sOp (l2 dGe) [sa, sb]))) := tCmp op_ge os_ge ha hb hm
theorem jIs (c : Ctx X k W) (G : Gok X g) (ha : PE X a (tArg g W sa)) (hb : PE X b (tArg g W sb)) (hm : behindInMarks .Is b = false := by rfl) : PE X (.Compare a [.Is] [b] pos) (tE g W (sOp (l2 dIsN) [sa, sb])) := jcmp op_isN os_isN ha hb hm
theorem tIs (c : Ctx X k W) (G : Gok X g) (ha : PE X a (tArg g W sa)) (hb : PE X b (tArg g W sb)) (hm : behindInMarks .Is b = false := by rfl) : PT X (.Compare a [.Is] [b] pos) (tT g W (cVal (sOp (l2 dIsN) [sa, sb]))) := tCmp op_isN os_isN ha hb hm
theorem jIsNot (c : Ctx X k W) (G : Gok X g) (ha : PE X a (tArg g W sa)) (hb : PE X b (tArg g W sb)) (hm : behindInMarks .IsNot b = false := by rfl) : PE X (.Compare a [.IsNot] [b] pos) (tE g W (sOp (l2 dNotN) [sa, sb])) := jcmp op_notN os_notN ha hb hm
theorem tIsNot (c : Ctx X k W) (G : Gok X g) (ha : PE X a (tArg g W sa)) (hb : PE X b (tArg g W sb)) (hm : behindInMarks .IsNot b = false := by rfl) : PT X (.Compare a [.IsNot] [b] pos) (tT g W (cVal (sOp (l2 dNotN) [sa, sb]))) := tCmp op_notN os_notN ha hb hm
theorem jUSub (ha : PE X a (tArg g W sa)) : PE X (.UnaryOp .USub a pos) (tE g W (sOp (l1 dNeg) [sa])) := jun un_neg os_neg ha
theorem jSub2 (G : Gok X g) (ha : PE X a (tArg g W sa)) (hb : PE X b (tArg g W sb)) (hs : PlainIx b := by intro _ _; rfl) : PE X (.Subscript a b pos) (tE g W (sOp (l2 dIx) [sa, sb])) := jix ix_any (by rw [G.K]; exact os_ix) ha hb hs

theorem j_len (c : Ctx X k W) (G : Gok X g) (hg : Gl X "len") (hm : X.mg "len" = none) (ha : PE X e (tArg g W sa)) (he : starEach [e] X.env = (false, eval e X.env) :: starEach [] X.env := by rfl) : PE X (.Call (.Name "len" p) [e] [] pos) (tE g W (sOp (l1 dLen) [sa])) :=
  jcb cr_len (by rw [G.K]; exact os_len) hg hm (by rfl) (a1 ha a0 he) (by decide) (by decide) he (by rfl)
theorem j_abs (c : Ctx X k W) (G : Gok X g) (hg : Gl X "abs") (hm : X.mg "abs" = none) (ha : PE X e (tArg g W sa)) (he : starEach [e] X.env = (false, eval e X.env) :: starEach [] X.env := by rfl) : PE X (.Call (.Name "abs" p) [e] [] pos) (tE g W (sOp (l1 dAbs) [sa])) :=
  jcb call_abs os_abs hg hm (by rfl) (a1 ha a0 he) (by decide) (by decide) he (by rfl)
theorem j_int (c : Ctx X k W) (G : Gok X g) (hg : Gl X "int") (hm : X.mg "int" = none) (ha : PE X e (tArg g W sa)) (he : starEach [e] X.env = (false, eval e X.env) :: starEach [] X.env := by rfl) : PE X (.Call (.Name "int" p) [e] [] pos) (tE g W (sOp (l1 dInt) [sa])) :=
  jct cr_int os_int hg hm (by rfl) (a1 ha a0 he) (by decide) (by decide) he (by rfl)
theorem j_str (c : Ctx X k W) (G : Gok X g) (hg : Gl X "str") (hm : X.mg "str" = none) (ha : PE X e (tArg g W sa)) (he : starEach [e] X.env = (false, eval e X.env) :: starEach [] X.env := by rfl) : PE X (.Call (.Name "str" p) [e] [] pos) (tE g W (sOp (l1 dStr) [sa])) :=
  jct cr_str os_str hg hm (by rfl) (a1 ha a0 he) (by decide) (by decide) he (by rfl)
theorem j_list (c : Ctx X k W) (G : Gok X g) (hg : Gl X "list") (hm : X.mg "list" = none) (ha : PE X e (tArg g W sa)) (he : starEach [e] X.env = (false, eval e X.env) :: starEach [] X.env := by rfl) : PE X (.Call (.Name "list" p) [e] [] pos) (tE g W (sOp (l1 dList) [sa])) :=
  jct call_list_of (by rw [G.K]; exact os_list) hg hm (by rfl) (a1 ha a0 he) (by decide) (by decide) he (by rfl)
theorem j_tuple (c : Ctx X k W) (G : Gok X g) (hg : Gl X "tuple") (hm : X.mg "tuple" = none) (ha : PE X e (tArg g W sa)) (he : starEach [e] X.env = (false, eval e X.env) :: starEach [] X.env := by rfl) : PE X (.Call (.Name "tuple" p) [e] [] pos) (tE g W (sOp (l1 dTuple) [sa])) :=
  jct call_tuple_of (by rw [G.K]; exact os_tuple) hg hm (by rfl) (a1 ha a0 he) (by decide) (by decide) he (by rfl)
theorem j_repr (c : Ctx X k W) (G : Gok X g) (hg : Gl X "repr") (hm : X.mg "repr" = none) (ha : PE X e (tArg g W sa)) (he : starEach [e] X.env = (false, eval e X.env) :: starEach [] X.env := by rfl) : PE X (.Call (.Name "repr" p) [e] [] pos) (tE g W (sOp (l1 dRepr) [sa])) :=
  jcb (cr_repr c.grd c.u64) (by rw [G.K]; exact os_repr) hg hm (by rfl) (a1 ha a0 he) (by decide) (by decide) he (by rfl)
theorem j_sorted (c : Ctx X k W) (G : Gok X g) (hg : Gl X "sorted") (hm : X.mg "sorted" = none) (ha : PE X e (tArg g W sa)) (he : starEach [e] X.env = (false, eval e X.env) :: starEach [] X.env := by rfl) : PE X (.Call (.Name "sorted" p) [e] [] pos) (tE g W (sOp (l1 dSorted) [sa])) :=
  jcb cr_sortedS (by rw [G.K]; exact os_sorted) hg hm (by rfl) (a1 ha a0 he) (by decide) (by decide) he (by rfl)

/-! a store to a pattern -/
def bAsg (st : TgS) (f : SE) : SS := fun ρ => thenS (f ρ) fun a ρ1 => if (a.1 && !a.2.seals) = true then .no else match st a.2 ρ1 with
  | some ρ2 => .nx ρ2
  | none => .no
theorem kAsg {tg : Expr} {gr : TG} {st : TgS} {ix : List Nat} {f : SE} (G : Gok X g) (he : PE X e (tE g W f)) (hg : PG X tg gr) (ht : TgOk X.K gr st ix) (hs : swapsWithSole [tg] e pos.line X.env = pure false := by rfl) (hw : swappedStores [tg] e X.env = pure none := by rfl)
    (h1 : (assignEach [tg] X.env).map (·.2) = [assign tg X.env] := by rfl) : PS X (.Assign [tg] e pos) (tS g W (bAsg st f)) := by
  refine PSimp (ps_asg he hg hs hw h1) fun E σ H ⟨F, ρ, e, q⟩ => ⟨F, ρ, e, (GoesS.expr q).imp fun a ρ1 F1 H1 u q v A => ?_⟩
  obtain ⟨fr, d⟩ := a
  dsimp only at q
  by_cases hs : (fr && !d.seals) = true
  · rw [if_pos hs] at q; exact q.elim
  rw [if_neg hs] at q
  obtain ⟨F2, E2, u2, r⟩ := A.seal (by simpa using hs)
  cases e2 : st d ρ1 with
  | none => rw [e2] at q; exact q.elim
  | some ρ2 =>
    rw [e2] at q
    exact ht g F2 H1 ρ1 ρ2 σ v d _ G.K.symm E2 r e2 fun σ' E3 _ _ => q σ' F2 H1 E3 u2
end
end J

namespace J
open PySem PySem.Spec PyProof.Rows L2

/-! ## targets, worked out -/
def kAsgS (st : TgS) (a : Bool × D) (ρ : Env) : RS := if (a.1 && !a.2.seals) = true then .no else kNx (st a.2 ρ)
def kCn (b : List D → Env → Option Env) (r : List D) : Option Env → Option Env
  | some ρ => b r ρ
  | none => none
theorem e_bAsg (st : TgS) (f : SE) (ρ : Env) : bAsg st f ρ = thenS (f ρ) (kAsgS st) := by
  unfold bAsg
  congr 1
theorem e_stN (i : Nat) (d : D) (ρ : Env) : stN i d ρ = stS i (false, d) ρ := Eq.trans rfl rfl
theorem e_stT (st : List D → Env → Option Env) (l : List D) (ρ : Env) : stT st (.tup l) ρ = st l ρ := Eq.trans rfl rfl
theorem e_stNil (ρ : Env) : stNil [] ρ = some ρ := Eq.trans rfl rfl
theorem e_stCons (a : TgS) (b : List D → Env → Option Env) (d : D) (r : List D) (ρ : Env) : stCons a b (d :: r) ρ = kCn b r (a d ρ) := by
  show (a d ρ).bind (fun ρ' => b r ρ') = _
  cases a d ρ <;> rfl
end J

namespace K02
open PySem PySem.Spec PyProof.Rows L2 J
def topS (i : Nat) : Stmt := PySem.Challenge.pw_mostcrowds_k02_kinds.main.body.getD i (.Pass ⟨0, 0, 0, 0⟩)
abbrev s_kind_at : Stmt := topS 2
theorem sc_kind_at : FnScope ["names", "number", "at", "name"] ["names", "number"] (defScope s_kind_at) := ⟨rfl, rfl, rfl, by decide +kernel, rfl, by decide +kernel, by decide +kernel⟩
def m_kind_at : SS :=
    (bRet (sOp (l1 dTuple) [.e (sComp (itEnum (.p 0)) [2, 3] (stT (stCons (stN 2) (stCons (stN 3) stNil))) (cVal (sOp (l2 dEq) [.e (sOp (l2 dAnd) [.e (sOp (l2 dShr) [.p 1, .p 2]), .e (sC (.int 1))]), .e (sC (.int 1))])) (sVar 3))]))
def M_kind_at : List D → RF := runV 2 [true, true] m_kind_at
theorem ok_kind_at {P : Program} {w : World} {K : PySem.W.Frag} {mg : Str → Option Value} {base : Heap} {f : Addr} {fd : FuncData} (F : Fun K "kind_at" "kind_at" s_kind_at f fd)
    (hm_enumerate : mg "enumerate" = none)
    (hm_tuple : mg "tuple" = none) : Fn P w K mg base 1 f fd ["names", "number"] (spV K mg [true, true] M_kind_at) := by
  refine fnV F sc_kind_at rfl fun cdv A outer s H E g c G => ?_
  exact (kOne (kRet (j_tuple c G (by rfl) hm_tuple (ae (jComp (own := [("at", 2), ("name", 3)]) G c.calm c.nd (iEnumJ (by rfl) hm_enumerate (a1 (ap (pv 0)) a0) G.K) (blkOk_by (own := [("at", 2), ("name", 3)]) (N := ["names", "number", "at", "name"]) (sc := defScope s_kind_at) (by decide +kernel)) (fun _ _ _ _ _ => (pg_tup (by rfl) (pgs_cons (pg_name (i := 2) (c.blk).nd rfl (.inl rfl)) (pgs_cons (pg_name (i := 3) (c.blk).nd rfl (.inl rfl)) pgs_nil)))) (tgT (tgCons (tgN (i := 2)) (tgCons (tgN (i := 3)) tgNil)) (lenCons (lenCons lenNil))) (fun _ _ _ _ _ g2 G2 => (oneJ (tEq (c.blk) (G2.blk) (ae (jBitAnd (G2.blk) (ae (jRShift (G2.blk) (ap (pv 1)) (ap (pv 2)))) (ae ji))) (ae ji)))) (fun _ _ _ _ _ g2 G2 => (jv (pv 3))) (by decide) (by decide))))))
abbrev s__law_source : Stmt := topS 4
theorem sc__law_source : FnScope ["_law_script", "_law_base", "_law_cells", "_law_cell", "_law_stirred", "_law_at"] ["_law_script", "_law_base"] (defScope s__law_source) := ⟨rfl, rfl, rfl, by decide +kernel, rfl, by decide +kernel, by decide +kernel⟩
def m__law_source : SS :=
    (bCons (bSet 2 (sComp (itSeq (.e (sSl11 (.p 0) (.p 1) (.e (sC (.int 60)))))) [3] (stN 3) cYes (sOp (l1 dAbs) [.e (sOp (l1 dInt) [.p 3])])))
    (bCons (bSet 4 (sOp (l2 dAdd) [.e (sC (.int 62089911)), .e (sOp (l2 dMul) [.e (sC (.int 29)), .p 1])]))
    (bCons (bFor (itEnum (.p 2)) (stT (stCons (stN 5) (stCons (stN 3) stNil))) (bSet 4 (sOp (l2 dMod) [.e (sOp (l1 dInt) [.e (sOp (l2 dAdd) [.e (sOp (l2 dMul) [.e (sOp (l2 dAdd) [.e (sOp (l2 dAdd) [.p 4, .p 5]), .e (sC (.int 1))]), .e (sC (.int 69621))]), .e (sOp (l2 dMod) [.e (sOp (l1 dInt) [.p 3]), .e (sC (.int 2147483563))])])]), .e (sC (.int 2147483647))])))
    (bRet (sDeal (sOp (l1 dRev) [.e (sComp (itSeq (.p 2)) [3] (stN 3) (cVal (sOp (l2 dGe) [.p 3, .e (sOp (l2 dPow) [.e (sC (.int 10)), .e (sC (.int 18))])])) (sVar 3))]) (sVar 4))))))
def M__law_source : List D → RF := runV 4 [true, true] m__law_source
theorem ok__law_source {P : Program} {w : World} {K : PySem.W.Frag} {mg : Str → Option Value} {base : Heap} {f : Addr} {fd : FuncData} (F : Fun K "_law_source" "_law_source" s__law_source f fd)
    (hm_int : mg "int" = none)
    (hm_abs : mg "abs" = none)
    (hm_enumerate : mg "enumerate" = none) : Fn P w K mg base 1 f fd ["_law_script", "_law_base"] (spV K mg [true, true] M__law_source) := by
  refine fnV F sc__law_source rfl fun cdv A outer s H E g c G => ?_
  exact (kCons (kSetC (own := [("_law_cell", 3)]) (i := 2) G c.calm c.nd rfl rfl (sw_true rfl rfl rfl (by decide +kernel)) (iSeqJ (ae (jsl11 (ap (pv 0)) (ap (pv 1)) (ae ji) G.K)) G.K) (blkOk_by (own := [("_law_cell", 3)]) (N := ["_law_script", "_law_base", "_law_cells", "_law_cell", "_law_stirred", "_law_at"]) (sc := defScope s__law_source) (by decide +kernel)) (fun _ _ _ _ _ => (pg_name (i := 3) (c.blk).nd rfl (.inl rfl))) (tgN (i := 3)) (fun _ _ _ _ _ g2 G2 => yesJ) (fun _ _ _ _ _ g2 G2 => (j_abs (c.blk) (G2.blk) (by rfl) hm_abs (ae (j_int (c.blk) (G2.blk) (by rfl) hm_int (ap (pv 3)))))) (by decide) (by decide))
    (kCons (kSet (i := 4) c.nd rfl (.inl rfl) (jAdd G (ae ji) (ae (jMult G (ae ji) (ap (pv 1))))))
    (kCons (kFor G c.pass c.calm (iEnumJ (by rfl) hm_enumerate (a1 (ap (pv 2)) a0) G.K) (pg_tup (by rfl) (pgs_cons (pg_name (i := 5) c.nd rfl (.inl rfl)) (pgs_cons (pg_name (i := 3) c.nd rfl (.inl rfl)) pgs_nil))) (tgT (tgCons (tgN (i := 5)) (tgCons (tgN (i := 3)) tgNil)) (lenCons (lenCons lenNil))) (fun g4 G4 => (kOne (kSet (i := 4) c.nd rfl (.inl rfl) (jMod G4 (ae (j_int c G4 (by rfl) hm_int (ae (jAdd G4 (ae (jMult G4 (ae (jAdd G4 (ae (jAdd G4 (ap (pv 4)) (ap (pv 5)))) (ae ji))) (ae ji))) (ae (jMod G4 (ae (j_int c G4 (by rfl) hm_int (ap (pv 3)))) (ae ji))))))) (ae ji))))))
    (kOne (kRet (jDeal G (fun g3 G3 => (jrev (ae (jComp (own := [("_law_cell", 3)]) G3 c.calm c.nd (iSeqJ (ap (pv 2)) G3.K) (blkOk_by (own := [("_law_cell", 3)]) (N := ["_law_script", "_law_base", "_law_cells", "_law_cell", "_law_stirred", "_law_at"]) (sc := defScope s__law_source) (by decide +kernel)) (fun _ _ _ _ _ => (pg_name (i := 3) (c.blk).nd rfl (.inl rfl))) (tgN (i := 3)) (fun _ _ _ _ _ g2 G2 => (oneJ (tGtE (c.blk) (G2.blk) (ap (pv 3)) (ae (jPow (G2.blk) (ae ji) (ae ji)))))) (fun _ _ _ _ _ g2 G2 => (jv (pv 3))) (by decide) (by decide))) G3.K)) (fun g3 G3 => (jv (pv 4)))))))))
abbrev s__law_draw : Stmt := topS 5
theorem sc__law_draw : FnScope ["_law_deal", "_law_many", "_law_great", "_law_cell"] ["_law_deal", "_law_many"] (defScope s__law_draw) := ⟨rfl, rfl, rfl, by decide +kernel, rfl, by decide +kernel, by decide +kernel⟩
abbrev M__law_draw : List D → RF := drawM
theorem ok__law_draw {P : Program} {w : World} {K : PySem.W.Frag} {mg : Str → Option Value} {base : Heap} {f : Addr} {fd : FuncData} (F : Fun K "_law_draw" "_law_draw" s__law_draw f fd)
    (hm_int : mg "int" = none) : Fn P w K mg base 1 f fd ["_law_deal", "_law_many"] (spI K mg [false] M__law_draw) := by
  refine fnDraw F sc__law_draw rfl fun cdv A outer s H E g c G => ⟨ps_asg (pe_dget c.u1 (pv 0) pe_str (by intro _ _; rfl)) (pg_name (i := 2) c.nd rfl (.inl rfl)), ?_⟩
  exact (kCons (kWhile 65 c.pass (PW.pt (wAnd (tNotEq c G (ap (pv 2)) (ae (jlst a0))) (wOne (tEq c G (ae (jSub2 G (ap (pv 2)) (ae (jUSub (ae ji))))) (ae ji)) (.inl rfl)))) (kOne (kExpr (jMut0 G ms_pop (pe_bm0 PySem.F.plainAttrs_list PySem.F.slot_list_pop PySem.F.type_list_pop mt_pop (pv 2))))))
    (kCons (kIf (tNotEq c G (ap (pv 2)) (ae (jlst a0))) (kCons (kSet (i := 3) c.nd rfl (.inl rfl) (jMut0 G ms_pop (pe_bm0 PySem.F.plainAttrs_list PySem.F.slot_list_pop PySem.F.type_list_pop mt_pop (pv 2))))
    (kCons (kExpr (jMut G ms_append (pe_bm PySem.F.plainAttrs_list PySem.F.slot_list_append PySem.F.type_list_append mt_append (pv 2) (a1 (ae (jFloorDiv G (ap (pv 3)) (ap (pv 1)))) a0))))
    (kOne (kRet (jMod G (ae (j_int c G (by rfl) hm_int (ap (pv 3)))) (ap (pv 1))))))) kNil)
    (kCons (kStir (ps_dput c.u1 (pv 0) pe_str (jMod G (ae (j_int c G (by rfl) hm_int (ae (jAdd G (ae (jMult G (ae (jStir (pe_dget c.u1 (pv 0) pe_str (by intro _ _; rfl)))) (ae ji))) (ae ji))))) (ae ji)) (by rfl)))
    (kOne (kRet (jMod G (ae (j_int c G (by rfl) hm_int (ae (jFloorDiv G (ae (jStir (pe_dget c.u1 (pv 0) pe_str (by intro _ _; rfl)))) (ae ji))))) (ap (pv 1))))))))
abbrev s__law_kinds : Stmt := topS 8
theorem sc__law_kinds : FnScope ["_law_names_here", "_law_known", "_law_found", "_law_name", "_law_kind"] ["_law_names_here"] (defScope s__law_kinds) := ⟨rfl, rfl, rfl, by decide +kernel, rfl, by decide +kernel, by decide +kernel⟩
def m__law_kinds : SS :=
    (bCons (bPar 1 2 (sOp (l1 dSSet) [.e (sComp (itSeq (.p 0)) [3] (stN 3) cYes (sOp (l1 dStr) [.p 3]))]) (sDisp mLst [.e (sDisp mTup [])]))
    (bCons (bFor (itSeq (.p 1)) (stN 3) (bSet 2 (sOp (l2 dAdd) [.p 2, .e (sComp (itSeq (.p 2)) [4] (stN 4) cYes (sOp (l2 dAdd) [.p 4, .e (sDisp mTup [.e (sVar 3)])]))])))
    (bRet (mvVar 2))))
def M__law_kinds : List D → RF := runV 4 [true] m__law_kinds
theorem ok__law_kinds {P : Program} {w : World} {K : PySem.W.Frag} {mg : Str → Option Value} {base : Heap} {f : Addr} {fd : FuncData} (F : Fun K "_law_kinds" "_law_kinds" s__law_kinds f fd)
    (hm_str : mg "str" = none)
    (hm_sorted : mg "sorted" = none)
    (hm_set : mg "set" = none) : Fn P w K mg base 1 f fd ["_law_names_here"] (spV K mg [true] M__law_kinds) := by
  refine fnV F sc__law_kinds rfl fun cdv A outer s H E g c G => ?_
  exact (kCons (kPar (i := 1) (j := 2) G c.calm c.nd rfl rfl (by decide) rfl rfl (jSSet c.calm G (by rfl) hm_sorted (by rfl) hm_set (ae (jComp (own := [("_law_name", 3)]) G c.calm c.nd (iSeqJ (ap (pv 0)) G.K) (blkOk_by (own := [("_law_name", 3)]) (N := ["_law_names_here", "_law_known", "_law_found", "_law_name", "_law_kind"]) (sc := defScope s__law_kinds) (by decide +kernel)) (fun _ _ _ _ _ => (pg_name (i := 3) (c.blk).nd rfl (.inl rfl))) (tgN (i := 3)) (fun _ _ _ _ _ g2 G2 => yesJ) (fun _ _ _ _ _ g2 G2 => (j_str (c.blk) (G2.blk) (by rfl) hm_str (ap (pv 3)))) (by decide) (by decide)))) (fun g3 G3 => (jlst (a1 (ae (jtup a0)) a0))) (by rfl))
    (kCons (kFor G c.pass c.calm (iSeqJ (ap (pv 1)) G.K) (pg_name (i := 3) c.nd rfl (.inr rfl)) (tgN (i := 3)) (fun g4 G4 => (kOne (kSet (i := 2) c.nd rfl (.inl rfl) (jAdd G4 (ap (pv 2)) (ae (jComp (own := [("_law_kind", 4)]) G4 c.calm c.nd (iSeqJ (ap (pv 2)) G4.K) (blkOk_by (own := [("_law_kind", 4)]) (N := ["_law_names_here", "_law_known", "_law_found", "_law_name", "_law_kind"]) (sc := defScope s__law_kinds) (by decide +kernel)) (fun _ _ _ _ _ => (pg_name (i := 4) (c.blk).nd rfl (.inl rfl))) (tgN (i := 4)) (fun _ _ _ _ _ g2 G2 => yesJ) (fun _ _ _ _ _ g2 G2 => (jAdd (G2.blk) (ap (pv 4)) (ae (jtup (a1 (ae (jv (pv 3))) a0))))) (by decide) (by decide))))))))
    (kOne (kRetM (pv 2)))))
abbrev s_kinds : Stmt := topS 1
theorem sc_kinds : FnScope ["names", "ordered", "number"] ["names"] (defScope s_kinds) := ⟨rfl, rfl, rfl, by decide +kernel, rfl, by decide +kernel, by decide +kernel⟩
def m_kinds : SS :=
    (bCons (bSet 1 (sOp (l1 dSSet) [.p 0]))
    (bRet (sOp (l1 dTuple) [.e (sComp (itRng1 (.e (sOp (l2 dShl) [.e (sC (.int 1)), .e (sOp (l1 dLen) [.p 1])]))) [2] (stN 2) cYes (sCallV [true, true] (M_kind_at) [.p 1, .p 2]))])))
def M_kinds : List D → RF := runV 2 [true] m_kinds
theorem ok_kinds {P : Program} {w : World} {K : PySem.W.Frag} {mg : Str → Option Value} {base : Heap} {f : Addr} {fd : FuncData} (F : Fun K "kinds" "kinds" s_kinds f fd)
    (hm_sorted : mg "sorted" = none)
    (hm_set : mg "set" = none)
    (hm_len : mg "len" = none)
    (hm_range : mg "range" = none)
    {a_kind_at : Addr} {fd_kind_at : FuncData} (F_kind_at : Fn P w K mg base 1 a_kind_at fd_kind_at ["names", "number"] (spV K mg [true, true] M_kind_at)) (hm_kind_at : mg "kind_at" = some (.ref a_kind_at)) (hk_kind_at : PySem.W.keepIn K (.ref a_kind_at) = true) (hb_kind_at : Binds K fd_kind_at ["names", "number"] [])
    (hm_tuple : mg "tuple" = none) : Fn P w K mg base 2 f fd ["names"] (spV K mg [true] M_kinds) := by
  refine fnV F sc_kinds rfl fun cdv A outer s H E g c G => ?_
  exact (kCons (kSet (i := 1) c.nd rfl (.inr rfl) (jSSet c.calm G (by rfl) hm_sorted (by rfl) hm_set (ap (pv 0))))
    (kOne (kRet (j_tuple c G (by rfl) hm_tuple (ae (jComp (own := [("number", 2)]) G c.calm c.nd (iRng1J (by rfl) hm_range (a1 (ae (jLShift G (ae ji) (ae (j_len c G (by rfl) hm_len (ap (pv 1)))))) a0)) (blkOk_by (own := [("number", 2)]) (N := ["names", "ordered", "number"]) (sc := defScope s_kinds) (by decide +kernel)) (fun _ _ _ _ _ => (pg_name (i := 2) (c.blk).nd rfl (.inl rfl))) (tgN (i := 2)) (fun _ _ _ _ _ g2 G2 => yesJ) (fun _ _ _ _ _ g2 G2 => (jCallV (G2.blk) (F_kind_at.mono (by omega)) (c.blk) (by rfl) hm_kind_at hk_kind_at hb_kind_at (a1 (ap (pv 1)) (a1 (ap (pv 2)) a0)))) (by decide) (by decide)))))))
abbrev s__law_shuffled : Stmt := topS 6
theorem sc__law_shuffled : FnScope ["_law_deal", "_law_some", "_law_left", "_law_found", "_law_turn"] ["_law_deal", "_law_some"] (defScope s__law_shuffled) := ⟨rfl, rfl, rfl, by decide +kernel, rfl, by decide +kernel, by decide +kernel⟩
def m__law_shuffled : SS :=
    (bCons (bPar 2 3 (sOp (l1 dList) [.p 1]) (sDisp mLst []))
    (bCons (bFor (itRng1 (.e (sOp (l1 dLen) [.p 2]))) (stN 4) (bExpr (sMut oAppend 3 [.e (sMut oPopAt 2 [.e (sCallI [false] (M__law_draw) 0 [.e (sOp (l1 dLen) [.p 2])])])])))
    (bRet (mvVar 3))))
def M__law_shuffled : List D → RF := runI 3 [true] m__law_shuffled
theorem ok__law_shuffled {P : Program} {w : World} {K : PySem.W.Frag} {mg : Str → Option Value} {base : Heap} {f : Addr} {fd : FuncData} (F : Fun K "_law_shuffled" "_law_shuffled" s__law_shuffled f fd)
    (hm_list : mg "list" = none)
    (hm_len : mg "len" = none)
    (hm_range : mg "range" = none)
    {a__law_draw : Addr} {fd__law_draw : FuncData} (F__law_draw : Fn P w K mg base 1 a__law_draw fd__law_draw ["_law_deal", "_law_many"] (spI K mg [false] M__law_draw)) (hm__law_draw : mg "_law_draw" = some (.ref a__law_draw)) (hk__law_draw : PySem.W.keepIn K (.ref a__law_draw) = true) (hb__law_draw : Binds K fd__law_draw ["_law_deal", "_law_many"] []) : Fn P w K mg base 2 f fd ["_law_deal", "_law_some"] (spI K mg [true] M__law_shuffled) := by
  refine fnI F sc__law_shuffled rfl fun cdv A outer s H E g c G => ?_
  exact (kCons (kPar (i := 2) (j := 3) G c.calm c.nd rfl rfl (by decide) rfl rfl (j_list c G (by rfl) hm_list (ap (pv 1))) (fun g3 G3 => (jlst a0)) (by rfl))
    (kCons (kFor G c.pass c.calm (iRng1J (by rfl) hm_range (a1 (ae (j_len c G (by rfl) hm_len (ap (pv 2)))) a0)) (pg_name (i := 4) c.nd rfl (.inl rfl)) (tgN (i := 4)) (fun g4 G4 => (kOne (kExpr (jMut G4 ms_append (pe_bm PySem.F.plainAttrs_list PySem.F.slot_list_append PySem.F.type_list_append mt_append (pv 3) (a1 (ae (jMut G4 ms_popAt (pe_bm PySem.F.plainAttrs_list PySem.F.slot_list_pop PySem.F.type_list_pop mt_popAt (pv 2) (a1 (ae (jCallI G4 (F__law_draw.mono (by omega)) c (by rfl) hm__law_draw hk__law_draw hb__law_draw (a1 (ap (pv 0)) (a1 (ae (j_len c G4 (by rfl) hm_len (ap (pv 2)))) a0)))) a0)))) a0)))))))
    (kOne (kRetM (pv 3)))))
abbrev s__law_names : Stmt := topS 7
theorem sc__law_names : FnScope ["_law_deal", "_law_many", "_law_some", "_law_form", "_law_spot", "_law_at", "_law_letters"] ["_law_deal", "_law_many"] (defScope s__law_names) := ⟨rfl, rfl, rfl, by decide +kernel, rfl, by decide +kernel, by decide +kernel⟩
def m__law_names : SS :=
    (bCons (bSet 2 (sDisp mLst [.e (sC (.str "more")), .e (sC (.str "even")), .e (sC (.str "is")), .e (sC (.str "do")), .e (sC (.str "know")), .e (sC (.str "let")), .e (sC (.str "w")), .e (sC (.str "sure")), .e (sC (.str "undo")), .e (sC (.str "row"))]))
    (bCons (bAsg (stT (stCons (stN 3) (stCons (stN 4) stNil))) (sDisp mTup [.e (sCallI [false] (M__law_draw) 0 [.e (sC (.int 3))]), .e (sCallI [false] (M__law_draw) 0 [.e (sC (.int 26))])]))
    (bCons (bIf (cVal (sOp (l2 dEq) [.p 3, .e (sC (.int 0))])) (bRet (sOp (l2 dSl01) [.e (sCallI [true] (M__law_shuffled) 0 [.p 2]), .p 1])) bNil)
    (bCons (bIf (cVal (sOp (l2 dEq) [.p 3, .e (sC (.int 1))])) (bRet (sCallI [true] (M__law_shuffled) 0 [.e (sComp (itRng1 (.p 1)) [5] (stN 5) cYes (sOp (l2 dSl01) [.e (sC (.str "zzzz")), .e (sOp (l2 dAdd) [.p 5, .e (sC (.int 1))])]))])) bNil)
    (bCons (bSet 6 (sC (.str "abcdefghijklmnopqrstuvwxyz")))
    (bRet (sComp (itRng1 (.p 1)) [5] (stN 5) cYes (sOp (l2 dAdd) [.e (sOp (l2 dIx) [.p 6, .e (sOp (l2 dMod) [.e (sOp (l1 dInt) [.e (sOp (l2 dAdd) [.p 4, .e (sOp (l2 dMul) [.e (sC (.int 11)), .p 5])])]), .e (sC (.int 26))])]), .e (sOp (l2 dSl01) [.e (sC (.str "wq")), .e (sOp (l2 dMod) [.e (sOp (l1 dInt) [.p 4]), .e (sC (.int 3))])])]))))))))
def M__law_names : List D → RF := runI 5 [true] m__law_names
theorem ok__law_names {P : Program} {w : World} {K : PySem.W.Frag} {mg : Str → Option Value} {base : Heap} {f : Addr} {fd : FuncData} (F : Fun K "_law_names" "_law_names" s__law_names f fd)
    {a__law_draw : Addr} {fd__law_draw : FuncData} (F__law_draw : Fn P w K mg base 1 a__law_draw fd__law_draw ["_law_deal", "_law_many"] (spI K mg [false] M__law_draw)) (hm__law_draw : mg "_law_draw" = some (.ref a__law_draw)) (hk__law_draw : PySem.W.keepIn K (.ref a__law_draw) = true) (hb__law_draw : Binds K fd__law_draw ["_law_deal", "_law_many"] [])
    {a__law_shuffled : Addr} {fd__law_shuffled : FuncData} (F__law_shuffled : Fn P w K mg base 2 a__law_shuffled fd__law_shuffled ["_law_deal", "_law_some"] (spI K mg [true] M__law_shuffled)) (hm__law_shuffled : mg "_law_shuffled" = some (.ref a__law_shuffled)) (hk__law_shuffled : PySem.W.keepIn K (.ref a__law_shuffled) = true) (hb__law_shuffled : Binds K fd__law_shuffled ["_law_deal", "_law_some"] [])
    (hm_range : mg "range" = none)
    (hm_int : mg "int" = none) : Fn P w K mg base 3 f fd ["_law_deal", "_law_many"] (spI K mg [true] M__law_names) := by
  refine fnI F sc__law_names rfl fun cdv A outer s H E g c G => ?_
  exact (kCons (kSet (i := 2) c.nd rfl (.inl rfl) (jlst (a1 (ae js) (a1 (ae js) (a1 (ae js) (a1 (ae js) (a1 (ae js) (a1 (ae js) (a1 (ae js) (a1 (ae js) (a1 (ae js) (a1 (ae js) a0))))))))))))
    (kCons (kAsg G (jtup (a1 (ae (jCallI G (F__law_draw.mono (by omega)) c (by rfl) hm__law_draw hk__law_draw hb__law_draw (a1 (ap (pv 0)) (a1 (ae ji) a0)))) (a1 (ae (jCallI G (F__law_draw.mono (by omega)) c (by rfl) hm__law_draw hk__law_draw hb__law_draw (a1 (ap (pv 0)) (a1 (ae ji) a0)))) a0))) (pg_tup (by rfl) (pgs_cons (pg_name (i := 3) c.nd rfl (.inl rfl)) (pgs_cons (pg_name (i := 4) c.nd rfl (.inr rfl)) pgs_nil))) (tgT (tgCons (tgN (i := 3)) (tgCons (tgN (i := 4)) tgNil)) (lenCons (lenCons lenNil))))
    (kCons (kIf (tEq c G (ap (pv 3)) (ae ji)) (kOne (kRet (jsl01 (ae (jCallI G (F__law_shuffled.mono (by omega)) c (by rfl) hm__law_shuffled hk__law_shuffled hb__law_shuffled (a1 (ap (pv 0)) (a1 (ap (pv 2)) a0)))) (ap (pv 1)) G.K))) kNil)
    (kCons (kIf (tEq c G (ap (pv 3)) (ae ji)) (kOne (kRet (jCallI G (F__law_shuffled.mono (by omega)) c (by rfl) hm__law_shuffled hk__law_shuffled hb__law_shuffled (a1 (ap (pv 0)) (a1 (ae (jComp (own := [("_law_at", 5)]) G c.calm c.nd (iRng1J (by rfl) hm_range (a1 (ap (pv 1)) a0)) (blkOk_by (own := [("_law_at", 5)]) (N := ["_law_deal", "_law_many", "_law_some", "_law_form", "_law_spot", "_law_at", "_law_letters"]) (sc := defScope s__law_names) (by decide +kernel)) (fun _ _ _ _ _ => (pg_name (i := 5) (c.blk).nd rfl (.inl rfl))) (tgN (i := 5)) (fun _ _ _ _ _ g2 G2 => yesJ) (fun _ _ _ _ _ g2 G2 => (jsl01 (ae js) (ae (jAdd (G2.blk) (ap (pv 5)) (ae ji))) (G2.blk).K)) (by decide) (by decide))) a0))))) kNil)
    (kCons (kSet (i := 6) c.nd rfl (.inr rfl) js)
    (kOne (kRet (jComp (own := [("_law_at", 5)]) G c.calm c.nd (iRng1J (by rfl) hm_range (a1 (ap (pv 1)) a0)) (blkOk_by (own := [("_law_at", 5)]) (N := ["_law_deal", "_law_many", "_law_some", "_law_form", "_law_spot", "_law_at", "_law_letters"]) (sc := defScope s__law_names) (by decide +kernel)) (fun _ _ _ _ _ => (pg_name (i := 5) (c.blk).nd rfl (.inl rfl))) (tgN (i := 5)) (fun _ _ _ _ _ g2 G2 => yesJ) (fun _ _ _ _ _ g2 G2 => (jAdd (G2.blk) (ae (jSub2 (G2.blk) (ap (pv 6)) (ae (jMod (G2.blk) (ae (j_int (c.blk) (G2.blk) (by rfl) hm_int (ae (jAdd (G2.blk) (ap (pv 4)) (ae (jMult (G2.blk) (ae ji) (ap (pv 5)))))))) (ae ji))))) (ae (jsl01 (ae js) (ae (jMod (G2.blk) (ae (j_int (c.blk) (G2.blk) (by rfl) hm_int (ap (pv 4)))) (ae ji))) (G2.blk).K)))) (by decide) (by decide)))))))))
abbrev s_law : Stmt := topS 9
theorem sc_law : FnScope ["_law_script", "_law_deal", "_law_turn", "_law_names_here", "_law_more", "_law_given", "_law_found", "_law_known", "_law_at", "_law_kind", "_law_name", "_law_spot"] ["_law_script"] (defScope s_law) := ⟨rfl, rfl, rfl, by decide +kernel, rfl, by decide +kernel, by decide +kernel⟩
def m_law : SS :=
    (bCons (bSet 1 (sCallV [true, true] (M__law_source) [.p 0, .e (sC (.int 0))]))
    (bCons (bFor (itRng1 (.e (sC (.int 6)))) (stN 2) (bCons (bSet 3 (sCallI [true] (M__law_names) 1 [.e (sCallI [false] (M__law_draw) 1 [.e (sC (.int 6))])]))
    (bCons (bSet 4 (sCallI [true] (M__law_shuffled) 1 [.e (sOp (l2 dAdd) [.p 3, .e (sOp (l2 dSl01) [.p 3, .e (sCallI [false] (M__law_draw) 1 [.e (sC (.int 3))])])])]))
    (bCons (bSet 5 (sIf (cVal (sOp (l2 dEq) [.e (sCallI [false] (M__law_draw) 1 [.e (sC (.int 2))]), .e (sC (.int 0))])) (sOp (l1 dTuple) [.p 4]) (sOp (l1 dList) [.p 4])))
    (bCons (bSet 6 (sCallV [true] (M_kinds) [.p 5]))
    (bCons (bIf (cOr (cVal (sOp (l2 dNe) [.e (sOp (l1 dRepr) [.p 6]), .e (sOp (l1 dRepr) [.e (sOp (l1 dTuple) [.e (sCallV [true] (M__law_kinds) [.p 3])])])])) (cVal (sOp (l2 dNe) [.e (sOp (l1 dList) [.p 5]), .p 4]))) (bRet (sC (.bl false))) bNil)
    (bCons (bSet 7 (sOp (l1 dSorted) [.e (sComp (itSeq (.p 3)) [10] (stN 10) cYes (sOp (l1 dStr) [.p 10]))]))
    (bCons (bFor (itEnum (.p 6)) (stT (stCons (stN 8) (stCons (stN 9) stNil))) (bIf (cVal (sOp (l2 dNe) [.e (sComp (itEnum (.p 7)) [11, 10] (stT (stCons (stN 11) (stCons (stN 10) stNil))) (cVal (sOp (l2 dEq) [.e (sOp (l2 dMod) [.e (sOp (l1 dInt) [.e (sOp (l2 dShr) [.p 8, .p 11])]), .e (sC (.int 2))]), .e (sC (.int 1))])) (sVar 10)), .e (sOp (l1 dList) [.p 9])])) (bRet (sC (.bl false))) bNil))
    (bIf (cVal (sOp (l2 dNe) [.e (sCallV [true] (M_kinds) [.e (sOp (l1 dRev) [.p 3])]), .p 6])) (bRet (sC (.bl false))) bNil)))))))))
    (bRet (sAnd (sOp (l2 dEq) [.e (sCallV [true] (M_kinds) [.e (sDisp mLst [])]), .e (sDisp mTup [.e (sDisp mTup [])])]) (sOp (l2 dEq) [.e (sCallV [true] (M_kinds) [.e (sDisp mTup [.e (sC (.str "b")), .e (sC (.str "a"))])]), .e (sDisp mTup [.e (sDisp mTup []), .e (sDisp mTup [.e (sC (.str "a"))]), .e (sDisp mTup [.e (sC (.str "b"))]), .e (sDisp mTup [.e (sC (.str "a")), .e (sC (.str "b"))])])])))))
def M_law : List D → RF := runV 11 [true] m_law
theorem ok_law {P : Program} {w : World} {K : PySem.W.Frag} {mg : Str → Option Value} {base : Heap} {f : Addr} {fd : FuncData} (F : Fun K "law" "law" s_law f fd)
    {a__law_source : Addr} {fd__law_source : FuncData} (F__law_source : Fn P w K mg base 1 a__law_source fd__law_source ["_law_script", "_law_base"] (spV K mg [true, true] M__law_source)) (hm__law_source : mg "_law_source" = some (.ref a__law_source)) (hk__law_source : PySem.W.keepIn K (.ref a__law_source) = true) (hb__law_source : Binds K fd__law_source ["_law_script", "_law_base"] [])
    (hm_range : mg "range" = none)
    {a__law_names : Addr} {fd__law_names : FuncData} (F__law_names : Fn P w K mg base 3 a__law_names fd__law_names ["_law_deal", "_law_many"] (spI K mg [true] M__law_names)) (hm__law_names : mg "_law_names" = some (.ref a__law_names)) (hk__law_names : PySem.W.keepIn K (.ref a__law_names) = true) (hb__law_names : Binds K fd__law_names ["_law_deal", "_law_many"] [])
    {a__law_draw : Addr} {fd__law_draw : FuncData} (F__law_draw : Fn P w K mg base 1 a__law_draw fd__law_draw ["_law_deal", "_law_many"] (spI K mg [false] M__law_draw)) (hm__law_draw : mg "_law_draw" = some (.ref a__law_draw)) (hk__law_draw : PySem.W.keepIn K (.ref a__law_draw) = true) (hb__law_draw : Binds K fd__law_draw ["_law_deal", "_law_many"] [])
    {a__law_shuffled : Addr} {fd__law_shuffled : FuncData} (F__law_shuffled : Fn P w K mg base 2 a__law_shuffled fd__law_shuffled ["_law_deal", "_law_some"] (spI K mg [true] M__law_shuffled)) (hm__law_shuffled : mg "_law_shuffled" = some (.ref a__law_shuffled)) (hk__law_shuffled : PySem.W.keepIn K (.ref a__law_shuffled) = true) (hb__law_shuffled : Binds K fd__law_shuffled ["_law_deal", "_law_some"] [])
    (hm_tuple : mg "tuple" = none)
    (hm_list : mg "list" = none)
    {a_kinds : Addr} {fd_kinds : FuncData} (F_kinds : Fn P w K mg base 2 a_kinds fd_kinds ["names"] (spV K mg [true] M_kinds)) (hm_kinds : mg "kinds" = some (.ref a_kinds)) (hk_kinds : PySem.W.keepIn K (.ref a_kinds) = true) (hb_kinds : Binds K fd_kinds ["names"] [])
    (hm_repr : mg "repr" = none)
    {a__law_kinds : Addr} {fd__law_kinds : FuncData} (F__law_kinds : Fn P w K mg base 1 a__law_kinds fd__law_kinds ["_law_names_here"] (spV K mg [true] M__law_kinds)) (hm__law_kinds : mg "_law_kinds" = some (.ref a__law_kinds)) (hk__law_kinds : PySem.W.keepIn K (.ref a__law_kinds) = true) (hb__law_kinds : Binds K fd__law_kinds ["_law_names_here"] [])
    (hm_str : mg "str" = none)
    (hm_sorted : mg "sorted" = none)
    (hm_enumerate : mg "enumerate" = none)
    (hm_int : mg "int" = none) : Fn P w K mg base 4 f fd ["_law_script"] (spV K mg [true] M_law) := by
  refine fnV F sc_law rfl fun cdv A outer s H E g c G => ?_
  exact (kCons (kSet (i := 1) c.nd rfl (.inl rfl) (jCallV G (F__law_source.mono (by omega)) c (by rfl) hm__law_source hk__law_source hb__law_source (a1 (ap (pv 0)) (a1 (ae ji) a0))))
    (kCons (kFor G c.pass c.calm (iRng1J (by rfl) hm_range (a1 (ae ji) a0)) (pg_name (i := 2) c.nd rfl (.inl rfl)) (tgN (i := 2)) (fun g4 G4 => (kCons (kSet (i := 3) c.nd rfl (.inl rfl) (jCallI G4 (F__law_names.mono (by omega)) c (by rfl) hm__law_names hk__law_names hb__law_names (a1 (ap (pv 1)) (a1 (ae (jCallI G4 (F__law_draw.mono (by omega)) c (by rfl) hm__law_draw hk__law_draw hb__law_draw (a1 (ap (pv 1)) (a1 (ae ji) a0)))) a0))))
    (kCons (kSet (i := 4) c.nd rfl (.inl rfl) (jCallI G4 (F__law_shuffled.mono (by omega)) c (by rfl) hm__law_shuffled hk__law_shuffled hb__law_shuffled (a1 (ap (pv 1)) (a1 (ae (jAdd G4 (ap (pv 3)) (ae (jsl01 (ap (pv 3)) (ae (jCallI G4 (F__law_draw.mono (by omega)) c (by rfl) hm__law_draw hk__law_draw hb__law_draw (a1 (ap (pv 1)) (a1 (ae ji) a0)))) G4.K)))) a0))))
    (kCons (kSet (i := 5) c.nd rfl (.inl rfl) (jIf (tEq c G4 (ae (jCallI G4 (F__law_draw.mono (by omega)) c (by rfl) hm__law_draw hk__law_draw hb__law_draw (a1 (ap (pv 1)) (a1 (ae ji) a0)))) (ae ji)) (j_tuple c G4 (by rfl) hm_tuple (ap (pv 4))) (j_list c G4 (by rfl) hm_list (ap (pv 4)))))
    (kCons (kSet (i := 6) c.nd rfl (.inl rfl) (jCallV G4 (F_kinds.mono (by omega)) c (by rfl) hm_kinds hk_kinds hb_kinds (a1 (ap (pv 5)) a0)))
    (kCons (kIf (PW.pt (wOr (tNotEq c G4 (ae (j_repr c G4 (by rfl) hm_repr (ap (pv 6)))) (ae (j_repr c G4 (by rfl) hm_repr (ae (j_tuple c G4 (by rfl) hm_tuple (ae (jCallV G4 (F__law_kinds.mono (by omega)) c (by rfl) hm__law_kinds hk__law_kinds hb__law_kinds (a1 (ap (pv 3)) a0)))))))) (wOne (tNotEq c G4 (ae (j_list c G4 (by rfl) hm_list (ap (pv 5)))) (ap (pv 4))) (.inr rfl)))) (kOne (kRet jb)) kNil)
    (kCons (kSet (i := 7) c.nd rfl (.inl rfl) (j_sorted c G4 (by rfl) hm_sorted (ae (jComp (own := [("_law_name", 10)]) G4 c.calm c.nd (iSeqJ (ap (pv 3)) G4.K) (blkOk_by (own := [("_law_name", 10)]) (N := ["_law_script", "_law_deal", "_law_turn", "_law_names_here", "_law_more", "_law_given", "_law_found", "_law_known", "_law_at", "_law_kind", "_law_name", "_law_spot"]) (sc := defScope s_law) (by decide +kernel)) (fun _ _ _ _ _ => (pg_name (i := 10) (c.blk).nd rfl (.inl rfl))) (tgN (i := 10)) (fun _ _ _ _ _ g2 G2 => yesJ) (fun _ _ _ _ _ g2 G2 => (j_str (c.blk) (G2.blk) (by rfl) hm_str (ap (pv 10)))) (by decide) (by decide)))))
    (kCons (kFor G4 c.pass c.calm (iEnumJ (by rfl) hm_enumerate (a1 (ap (pv 6)) a0) G4.K) (pg_tup (by rfl) (pgs_cons (pg_name (i := 8) c.nd rfl (.inr rfl)) (pgs_cons (pg_name (i := 9) c.nd rfl (.inl rfl)) pgs_nil))) (tgT (tgCons (tgN (i := 8)) (tgCons (tgN (i := 9)) tgNil)) (lenCons (lenCons lenNil))) (fun g5 G5 => (kOne (kIf (tNotEq c G5 (ae (jComp (own := [("_law_spot", 11), ("_law_name", 10)]) G5 c.calm c.nd (iEnumJ (by rfl) hm_enumerate (a1 (ap (pv 7)) a0) G5.K) (blkOk_by (own := [("_law_spot", 11), ("_law_name", 10)]) (N := ["_law_script", "_law_deal", "_law_turn", "_law_names_here", "_law_more", "_law_given", "_law_found", "_law_known", "_law_at", "_law_kind", "_law_name", "_law_spot"]) (sc := defScope s_law) (by decide +kernel)) (fun _ _ _ _ _ => (pg_tup (by rfl) (pgs_cons (pg_name (i := 11) (c.blk).nd rfl (.inl rfl)) (pgs_cons (pg_name (i := 10) (c.blk).nd rfl (.inl rfl)) pgs_nil)))) (tgT (tgCons (tgN (i := 11)) (tgCons (tgN (i := 10)) tgNil)) (lenCons (lenCons lenNil))) (fun _ _ _ _ _ g2 G2 => (oneJ (tEq (c.blk) (G2.blk) (ae (jMod (G2.blk) (ae (j_int (c.blk) (G2.blk) (by rfl) hm_int (ae (jRShift (G2.blk) (ap (pv 8)) (ap (pv 11)))))) (ae ji))) (ae ji)))) (fun _ _ _ _ _ g2 G2 => (jv (pv 10))) (by decide) (by decide))) (ae (j_list c G5 (by rfl) hm_list (ap (pv 9))))) (kOne (kRet jb)) kNil))))
    (kOne (kIf (tNotEq c G4 (ae (jCallV G4 (F_kinds.mono (by omega)) c (by rfl) hm_kinds hk_kinds hb_kinds (a1 (ae (jrev (ap (pv 3)) G4.K)) a0))) (ap (pv 6))) (kOne (kRet jb)) kNil)))))))))))
    (kOne (kRet (jAnd (jEq c G (ae (jCallV G (F_kinds.mono (by omega)) c (by rfl) hm_kinds hk_kinds hb_kinds (a1 (ae (jlst a0)) a0))) (ae (jtup (a1 (ae (jtup a0)) a0)))) (jOne (jEq c G (ae (jCallV G (F_kinds.mono (by omega)) c (by rfl) hm_kinds hk_kinds hb_kinds (a1 (ae (jtup (a1 (ae js) (a1 (ae js) a0)))) a0))) (ae (jtup (a1 (ae (jtup a0)) (a1 (ae (jtup (a1 (ae js) a0))) (a1 (ae (jtup (a1 (ae js) a0))) (a1 (ae (jtup (a1 (ae js) (a1 (ae js) a0)))) a0)))))))))))))

/-! ### the draws -/
def GD (gs : List Int) (s : Int) : Prop := gs.length < 64 ∧ 0 ≤ s ∧ s < 2147483647
theorem draw_ok {gs : List Int} {s m : Int} (h : GD gs s) (hm : 0 < m) (hm2 : m < 2 ^ 63) : ∃ r gs' s', drawM [.deal gs s, .int m] = .ok (false, .int r) (.deal gs' s') ∧ GD gs' s' ∧ 0 ≤ r ∧ r < m := by
  refine ⟨(drawI gs s m).1, (drawI gs s m).2.1, (drawI gs s m).2.2, ?_, ?_⟩
  · show (if _ then _ else _) = _
    rw [if_pos ⟨hm, hm2, h.1, h.2.1, h.2.2⟩]
  · have hl := drops_le gs
    have h1 := h.1
    have hb : (0 : Int) < 2147483647 := by omega
    unfold drawI drawIp
    cases e : (drops gs).getLast? with
    | none => exact ⟨⟨(by simp), Int.emod_nonneg _ (by omega), Int.emod_lt_of_pos _ hb⟩, Int.emod_nonneg _ (by omega), Int.emod_lt_of_pos _ hm⟩
    | some c =>
      have hp : 0 < (drops gs).length := by
        cases q : drops gs with
        | nil => rw [q] at e; cases e
        | cons a r => simp
      exact ⟨⟨by simp; omega, h.2.1, h.2.2⟩, Int.emod_nonneg _ (by omega), Int.emod_lt_of_pos _ hm⟩
/-! ### a shuffle -/
theorem popAt_ok {l : List D} {r : Int} (h0 : 0 ≤ r) (h : r < l.length) (hl : l.length < 64) : ∃ d, l[r.toNat]? = some d ∧ oPopAt l [(true, .int r)] = some (l.eraseIdx r.toNat, d) := by
  have hr : r.toNat < l.length := by omega
  refine ⟨l[r.toNat], List.getElem?_eq_getElem hr, ?_⟩
  unfold oPopAt
  dsimp only
  have hs : seqIndex? r l.length = some r.toNat := by
    have n : ¬ r < 0 := by omega
    unfold seqIndex?
    simp [n, h0, h]
  have b : -(2 ^ 63) ≤ r ∧ r < 2 ^ 63 := by omega
  rw [if_pos b, hs]
  dsimp only
  rw [List.getElem?_eq_getElem hr]
def shBody : SS := bExpr (sMut oAppend 3 [.e (sMut oPopAt 2 [.e (sCallI [false] (M__law_draw) 0 [.e (sOp (l1 dLen) [.p 2])])])])
theorem shBody_ok {gs : List Int} {s : Int} {ds l f : List D} {t : Slot} (h : GD gs s) (hl : 0 < l.length) (h64 : l.length < 64) (hf : f.length < 64) : ∃ gs' s' j d, shBody [.io (.deal gs s), .lent (.lst ds), .own (.lst l), .own (.lst f), t] = .nx [.io (.deal gs' s'), .lent (.lst ds), .own (.lst (l.eraseIdx j)), .own (.lst (f ++ [d])), t] ∧ GD gs' s' ∧ l[j]? = some d := by
  obtain ⟨r, gs', s', e, g, r0, r1⟩ := draw_ok h (m := l.length) (by omega) (by omega)
  obtain ⟨d, hd, ep⟩ := popAt_ok r0 r1 h64
  refine ⟨gs', s', r.toNat, d, ?_, g, hd⟩
  have hlen : dLen (.lst l) = some (false, .int l.length) := rfl
  have ha : f.length < sizeLine := by unfold sizeLine; omega
  unfold shBody
  simp only [M__law_draw, hlen, e, ep, ha, apart, List.all_cons, List.all_nil, e_bok, e_bexc, e_bno, e_tok, e_texc, e_tno, e_snx, e_srt, e_sbk, e_sct, e_sexc, e_sno, e_getP, e_evE, e_evP, e_evN, e_evC, e_derN, e_derC, e_derBC, e_der, e_derP, e_sArgs, e_sOp, e_sDisp, e_sVar, e_mvVar, e_sC, e_cVal, e_cAnd, e_cOr, e_cNot, e_cTru, e_sAnd, e_sOr, e_sNot, e_sIf, e_bNil, e_bCons, e_bIf, e_bSet, e_bExpr, e_bRet, e_bRetN, e_bPass, e_stS, e_mutS, e_sMut, e_bPar, e_sCallV, e_sCallI, e_itP, e_itAP, e_itAE, e_itSeq, e_itEnum, e_itRng1, e_itRng2, e_oNo, e_oVal, e_oOwn, e_oIo, e_bFor, e_sComp, e_sDeal, e_cYes, kGet, kOpt, kLis, kE, kP, kAs1, kAs, kDer, kOp, kDisp, kVar, kMv, kVal, kAndT, kOrT, kNotT, kTru, kAndE, kOrE, kNotE, kIfE, kIfS, kNx, kSetS, kExp, kSt, kMut, kMut3, kMut2, kMut1, kMutA, kMut0, kPar2, kPar1, kPar0, kFn, kFnO, kCall, kIo, kIoO, kCallI, kCallI0, kItP, kItE, kSeq, kEnum, kForB, kComp1, kComp, kDeal2, kDeal1, kDeal0, List.getElem?_cons_succ, List.getElem?_cons_zero, List.set_cons_zero, List.set_cons_succ, List.length_nil, List.length_cons, Bool.false_and, Bool.and_false, Bool.true_and, Bool.and_true, Bool.not_true, Bool.not_false, Bool.false_eq_true, if_true, if_false, reduceIte, Option.map_some, Option.map_none, Option.bind_some, Option.bind_none, D.seals, D.isB, l1, l2, frz, frzA, oAppend, oPop, oExtend, mTup, mLst, Nat.zero_le, argsVL, ioC, seqOf, okSeq, unlS, unlock, unlO, unlI, derefB, D.truth]
theorem loopF_cons {st : TgS} {body : SS} {d : D} {r : List D} {ρ ρ1 ρ2 : J.Env} (h1 : st d ρ = some ρ1) (h2 : body ρ1 = .nx ρ2) : loopF st body (d :: r) ρ = loopF st body r ρ2 := by
  show (match st d ρ with | none => RS.no | some ρ1 => (match body ρ1 with | .nx ρ2 => loopF st body r ρ2 | .ct ρ2 => loopF st body r ρ2 | .bk ρ2 => .nx ρ2 | .rt a ρ2 => .rt a ρ2 | .exc x ρ2 => .exc x ρ2 | .no => .no)) = _
  rw [h1]
  dsimp only
  rw [h2]
theorem erase_perm {α : Type} : ∀ {l : List α} {j : Nat} {d : α}, l[j]? = some d → (d :: l.eraseIdx j).Perm l
  | a :: r, 0, d, h => by cases h; exact .refl _
  | a :: r, j + 1, d, h => by
    have ih := erase_perm (l := r) (j := j) (d := d) (by simpa using h)
    exact (List.Perm.swap a d _).trans (.cons a ih)
theorem shLoop {ds : List D} : ∀ (ks l f : List D) (gs : List Int) (s : Int) (t : Slot), ks.length = l.length → l.length + f.length < 64 → GD gs s → t.open = true →
    ∃ gs' s' f' t', loopF (J.stN 4) shBody ks [.io (.deal gs s), .lent (.lst ds), .own (.lst l), .own (.lst f), t] = .nx [.io (.deal gs' s'), .lent (.lst ds), .own (.lst []), .own (.lst f'), t'] ∧ GD gs' s' ∧ f'.Perm (f ++ l)
  | [], l, f, gs, s, t, hk, hl, g, ht => by
    have : l = [] := List.eq_nil_of_length_eq_zero hk.symm
    subst this
    exact ⟨gs, s, f, t, rfl, g, by simp⟩
  | k :: ks, l, f, gs, s, t, hk, hl, g, ht => by
    have hk : ks.length + 1 = l.length := hk
    obtain ⟨gs1, s1, j, d, e, g1, hd⟩ := shBody_ok (ds := ds) (t := .val k) g (l := l) (f := f) (by omega) (by omega) (by omega)
    have st : J.stN 4 k [.io (.deal gs s), .lent (.lst ds), .own (.lst l), .own (.lst f), t] = some [.io (.deal gs s), .lent (.lst ds), .own (.lst l), .own (.lst f), .val k] := by
      simp only [J.stN, ht, e_bok, e_bexc, e_bno, e_tok, e_texc, e_tno, e_snx, e_srt, e_sbk, e_sct, e_sexc, e_sno, e_getP, e_evE, e_evP, e_evN, e_evC, e_derN, e_derC, e_derBC, e_der, e_derP, e_sArgs, e_sOp, e_sDisp, e_sVar, e_mvVar, e_sC, e_cVal, e_cAnd, e_cOr, e_cNot, e_cTru, e_sAnd, e_sOr, e_sNot, e_sIf, e_bNil, e_bCons, e_bIf, e_bSet, e_bExpr, e_bRet, e_bRetN, e_bPass, e_stS, e_mutS, e_sMut, e_bPar, e_sCallV, e_sCallI, e_itP, e_itAP, e_itAE, e_itSeq, e_itEnum, e_itRng1, e_itRng2, e_oNo, e_oVal, e_oOwn, e_oIo, e_bFor, e_sComp, e_sDeal, e_cYes, kGet, kOpt, kLis, kE, kP, kAs1, kAs, kDer, kOp, kDisp, kVar, kMv, kVal, kAndT, kOrT, kNotT, kTru, kAndE, kOrE, kNotE, kIfE, kIfS, kNx, kSetS, kExp, kSt, kMut, kMut3, kMut2, kMut1, kMutA, kMut0, kPar2, kPar1, kPar0, kFn, kFnO, kCall, kIo, kIoO, kCallI, kCallI0, kItP, kItE, kSeq, kEnum, kForB, kComp1, kComp, kDeal2, kDeal1, kDeal0, List.getElem?_cons_succ, List.getElem?_cons_zero, List.set_cons_zero, List.set_cons_succ, List.length_nil, List.length_cons, Bool.false_and, Bool.and_false, Bool.true_and, Bool.and_true, Bool.not_true, Bool.not_false, Bool.false_eq_true, if_true, if_false, reduceIte, Option.map_some, Option.map_none, Option.bind_some, Option.bind_none, D.seals, D.isB, l1, l2, frz, frzA, oAppend, oPop, oPopAt, oExtend, mTup, mLst, Nat.zero_le, argsVL, ioC, seqOf, okSeq, unlS, unlock, unlO, unlI, derefB, D.truth]
    rw [loopF_cons st e]
    have hp := erase_perm hd
    have hlen : (l.eraseIdx j).length + 1 = l.length := by rw [← hp.length_eq]; rfl
    obtain ⟨gs2, s2, f2, t2, e2, g2, p2⟩ := shLoop (ds := ds) ks (l.eraseIdx j) (f ++ [d]) gs1 s1 (.val k) (by omega) (by simp; omega) g1 rfl
    refine ⟨gs2, s2, f2, t2, e2, g2, p2.trans ?_⟩
    rw [List.append_assoc]
    exact List.Perm.append_left f hp
def shRest : SS := bCons (bFor (itRng1 (.e (sOp (l1 dLen) [.p 2]))) (J.stN 4) shBody) (bRet (mvVar 3))
theorem sh1 {gs : List Int} {s : Int} {ds : List D} : bPar 2 3 (sOp (l1 dList) [.p 1]) (sDisp mLst []) [.io (.deal gs s), .lent (.lst ds), .no, .no, .no] = .nx [.io (.deal gs s), .lent (.lst ds), .own (.lst ds), .own (.lst []), .no] := by
  have hlist : dList (.lst ds) = some (true, .lst ds) := rfl
  simp only [hlist, e_bok, e_bexc, e_bno, e_tok, e_texc, e_tno, e_snx, e_srt, e_sbk, e_sct, e_sexc, e_sno, e_getP, e_evE, e_evP, e_evN, e_evC, e_derN, e_derC, e_derBC, e_der, e_derP, e_sArgs, e_sOp, e_sDisp, e_sVar, e_mvVar, e_sC, e_cVal, e_cAnd, e_cOr, e_cNot, e_cTru, e_sAnd, e_sOr, e_sNot, e_sIf, e_bNil, e_bCons, e_bIf, e_bSet, e_bExpr, e_bRet, e_bRetN, e_bPass, e_stS, e_mutS, e_sMut, e_bPar, e_sCallV, e_sCallI, e_itP, e_itAP, e_itAE, e_itSeq, e_itEnum, e_itRng1, e_itRng2, e_oNo, e_oVal, e_oOwn, e_oIo, e_bFor, e_sComp, e_sDeal, e_cYes, kGet, kOpt, kLis, kE, kP, kAs1, kAs, kDer, kOp, kDisp, kVar, kMv, kVal, kAndT, kOrT, kNotT, kTru, kAndE, kOrE, kNotE, kIfE, kIfS, kNx, kSetS, kExp, kSt, kMut, kMut3, kMut2, kMut1, kMutA, kMut0, kPar2, kPar1, kPar0, kFn, kFnO, kCall, kIo, kIoO, kCallI, kCallI0, kItP, kItE, kSeq, kEnum, kForB, kComp1, kComp, kDeal2, kDeal1, kDeal0, List.getElem?_cons_succ, List.getElem?_cons_zero, List.set_cons_zero, List.set_cons_succ, List.length_nil, List.length_cons, Bool.false_and, Bool.and_false, Bool.true_and, Bool.and_true, Bool.not_true, Bool.not_false, Bool.false_eq_true, if_true, if_false, reduceIte, Option.map_some, Option.map_none, Option.bind_some, Option.bind_none, D.seals, D.isB, l1, l2, frz, frzA, oAppend, oPop, oPopAt, oExtend, mTup, mLst, Nat.zero_le, argsVL, ioC, seqOf, okSeq, unlS, unlock, unlO, unlI, derefB, D.truth]
theorem for_rng1 {sa : SArg} {st : TgS} {body : SS} {ρ ρ1 : J.Env} {n : Nat} (h : sArgs [sa] ρ = .ok [.int (n : Int)] ρ1) (hn : n < 64) : bFor (itRng1 sa) st body ρ = unlS .none (loopF st body (rng 0 n) ρ1) := by
  rw [e_bFor, e_itRng1, h, e_bok, r1_ok (rOk_of (by omega) (by omega)), e_tok]
  rfl
theorem sh2 {gs gs' : List Int} {s s' : Int} {ds f : List D} {t : Slot} (h : ds.length < 64) (e : loopF (J.stN 4) shBody (rng 0 ds.length) [.io (.deal gs s), .lent (.lst ds), .own (.lst ds), .own (.lst []), .no] = .nx [.io (.deal gs' s'), .lent (.lst ds), .own (.lst []), .own (.lst f), t]) :
    shRest [.io (.deal gs s), .lent (.lst ds), .own (.lst ds), .own (.lst []), .no] = .rt (true, .lst f) [.io (.deal gs' s'), .lent (.lst ds), .own (.lst []), .no, t] := by
  have hlen : dLen (.lst ds) = some (false, .int ds.length) := rfl
  have hs : sArgs [.e (sOp (l1 dLen) [.p 2])] [.io (.deal gs s), .lent (.lst ds), .own (.lst ds), .own (.lst []), .no] = .ok [.int (ds.length : Int)] [.io (.deal gs s), .lent (.lst ds), .own (.lst ds), .own (.lst []), .no] := by
    simp only [hlen, e_bok, e_bexc, e_bno, e_tok, e_texc, e_tno, e_snx, e_srt, e_sbk, e_sct, e_sexc, e_sno, e_getP, e_evE, e_evP, e_evN, e_evC, e_derN, e_derC, e_derBC, e_der, e_derP, e_sArgs, e_sOp, e_sDisp, e_sVar, e_mvVar, e_sC, e_cVal, e_cAnd, e_cOr, e_cNot, e_cTru, e_sAnd, e_sOr, e_sNot, e_sIf, e_bNil, e_bCons, e_bIf, e_bSet, e_bExpr, e_bRet, e_bRetN, e_bPass, e_stS, e_mutS, e_sMut, e_bPar, e_sCallV, e_sCallI, e_itP, e_itAP, e_itAE, e_itSeq, e_itEnum, e_itRng1, e_itRng2, e_oNo, e_oVal, e_oOwn, e_oIo, e_bFor, e_sComp, e_sDeal, e_cYes, kGet, kOpt, kLis, kE, kP, kAs1, kAs, kDer, kOp, kDisp, kVar, kMv, kVal, kAndT, kOrT, kNotT, kTru, kAndE, kOrE, kNotE, kIfE, kIfS, kNx, kSetS, kExp, kSt, kMut, kMut3, kMut2, kMut1, kMutA, kMut0, kPar2, kPar1, kPar0, kFn, kFnO, kCall, kIo, kIoO, kCallI, kCallI0, kItP, kItE, kSeq, kEnum, kForB, kComp1, kComp, kDeal2, kDeal1, kDeal0, List.getElem?_cons_succ, List.getElem?_cons_zero, List.set_cons_zero, List.set_cons_succ, List.length_nil, List.length_cons, Bool.false_and, Bool.and_false, Bool.true_and, Bool.and_true, Bool.not_true, Bool.not_false, Bool.false_eq_true, if_true, if_false, reduceIte, Option.map_some, Option.map_none, Option.bind_some, Option.bind_none, D.seals, D.isB, l1, l2, frz, frzA, oAppend, oPop, oPopAt, oExtend, mTup, mLst, Nat.zero_le, argsVL, ioC, seqOf, okSeq, unlS, unlock, unlO, unlI, derefB, D.truth]
  unfold shRest
  rw [e_bCons, for_rng1 hs h, e]
  simp only [e_bok, e_bexc, e_bno, e_tok, e_texc, e_tno, e_snx, e_srt, e_sbk, e_sct, e_sexc, e_sno, e_getP, e_evE, e_evP, e_evN, e_evC, e_derN, e_derC, e_derBC, e_der, e_derP, e_sArgs, e_sOp, e_sDisp, e_sVar, e_mvVar, e_sC, e_cVal, e_cAnd, e_cOr, e_cNot, e_cTru, e_sAnd, e_sOr, e_sNot, e_sIf, e_bNil, e_bCons, e_bIf, e_bSet, e_bExpr, e_bRet, e_bRetN, e_bPass, e_stS, e_mutS, e_sMut, e_bPar, e_sCallV, e_sCallI, e_itP, e_itAP, e_itAE, e_itSeq, e_itEnum, e_itRng1, e_itRng2, e_oNo, e_oVal, e_oOwn, e_oIo, e_bFor, e_sComp, e_sDeal, e_cYes, kGet, kOpt, kLis, kE, kP, kAs1, kAs, kDer, kOp, kDisp, kVar, kMv, kVal, kAndT, kOrT, kNotT, kTru, kAndE, kOrE, kNotE, kIfE, kIfS, kNx, kSetS, kExp, kSt, kMut, kMut3, kMut2, kMut1, kMutA, kMut0, kPar2, kPar1, kPar0, kFn, kFnO, kCall, kIo, kIoO, kCallI, kCallI0, kItP, kItE, kSeq, kEnum, kForB, kComp1, kComp, kDeal2, kDeal1, kDeal0, List.getElem?_cons_succ, List.getElem?_cons_zero, List.set_cons_zero, List.set_cons_succ, List.length_nil, List.length_cons, Bool.false_and, Bool.and_false, Bool.true_and, Bool.and_true, Bool.not_true, Bool.not_false, Bool.false_eq_true, if_true, if_false, reduceIte, Option.map_some, Option.map_none, Option.bind_some, Option.bind_none, D.seals, D.isB, l1, l2, frz, frzA, oAppend, oPop, oPopAt, oExtend, mTup, mLst, Nat.zero_le, argsVL, ioC, seqOf, okSeq, unlS, unlock, unlO, unlI, derefB, D.truth]
theorem runI_rt {n : Nat} {md : List Bool} {f : SS} {d0 o : D} {ds : List D} {a : Bool × D} {ρ : J.Env} (h : f ((.io d0 :: slotsVL md ds) ++ List.replicate n .no) = .rt a ρ) (ho : outS ρ = some o) : J.runI n md f (d0 :: ds) = .ok a o := by
  simp only [J.runI, h, ho]
theorem runV_rt {n : Nat} {md : List Bool} {f : SS} {ds : List D} {a : Bool × D} {ρ : J.Env} (h : f (slotsVL md ds ++ List.replicate n .no) = .rt a ρ) : J.runV n md f ds = .ok a .non := by
  simp only [J.runV, h]
theorem shuffled_ok {gs : List Int} {s : Int} {ds : List D} (g : GD gs s) (h : ds.length < 64) : ∃ gs' s' f, M__law_shuffled [.deal gs s, .lst ds] = .ok (true, .lst f) (.deal gs' s') ∧ GD gs' s' ∧ f.Perm ds := by
  obtain ⟨gs', s', f, t, e, g', p⟩ := shLoop (ds := ds) (rng 0 ds.length) ds [] gs s .no (by simp [rng]) (by simpa using h) g rfl
  refine ⟨gs', s', f, ?_, g', by simpa using p⟩
  have em : m__law_shuffled [.io (.deal gs s), .lent (.lst ds), .no, .no, .no] = .rt (true, .lst f) [.io (.deal gs' s'), .lent (.lst ds), .own (.lst []), .no, t] := by
    show bCons (bPar 2 3 (sOp (l1 dList) [.p 1]) (sDisp mLst [])) shRest _ = _
    rw [e_bCons, sh1, e_snx]
    exact sh2 h e
  exact runI_rt (n := 3) (md := [true]) (f := m__law_shuffled) em rfl
theorem loopC_yes {own : List Nat} {st : TgS} {c : ST} {el : SE} {d e : D} {r acc : List D} {ρ ρ1 ρ2 ρ3 ρ4 : J.Env} (h1 : st d ρ = some ρ1) (h2 : c ρ1 = .ok true ρ2) (h3 : evArg (.e el) ρ2 = .ok (.d e) ρ3) (h4 : blankC ρ3 own = some ρ4) : loopC own st c el (d :: r) ρ acc = loopC own st c el r ρ4 (acc ++ [e]) := by
  simp only [loopC, h1, h2, h3, h4, Option.bind_some]
theorem loopC_no {own : List Nat} {st : TgS} {c : ST} {el : SE} {d : D} {r acc : List D} {ρ ρ1 ρ2 ρ4 : J.Env} (h1 : st d ρ = some ρ1) (h2 : c ρ1 = .ok false ρ2) (h4 : blankC ρ2 own = some ρ4) : loopC own st c el (d :: r) ρ acc = loopC own st c el r ρ4 acc := by
  simp only [loopC, h1, h2, h4, Option.bind_some]
/-! ### a kind by its number -/
def kbits (k : Int) : Nat → List Str → List Str
  | _, [] => []
  | i, x :: r => if (Builtin.bitAnd (k / 2 ^ i) 1 == 1) = true then x :: kbits k (i + 1) r else kbits k (i + 1) r
def kaT : TgS := stT (stCons (J.stN 2) (stCons (J.stN 3) stNil))
def kaC : ST := cVal (sOp (l2 dEq) [.e (sOp (l2 dAnd) [.e (sOp (l2 dShr) [.p 1, .p 2]), .e (sC (.int 1))]), .e (sC (.int 1))])
theorem shr_nat (k : Int) (i : Nat) : dShr (.int k) (.int (i : Nat)) = some (false, .int (k / 2 ^ i)) := by
  have := dII_ok (C := fun _ j => decide (0 ≤ j)) (f := fun i j => D.int (i / 2 ^ j.toNat)) (i := k) (j := (i : Int)) (decide_eq_true (by omega))
  rw [Int.toNat_natCast] at this
  exact this
theorem and_int (a b : Int) : dAnd (.int a) (.int b) = some (false, .int (Builtin.bitAnd a b)) := rfl
theorem kaT_ok {a b d : D} {i : Nat} : kaT (.tup [.int (i : Nat), d]) [.lent a, .lent b, .no, .no] = some [.lent a, .lent b, .val (.int (i : Nat)), .val d] := rfl
theorem kaC_ok {a d : D} {k : Int} {i : Nat} : kaC [.lent a, .lent (.int k), .val (.int (i : Nat)), .val d] = .ok (Builtin.bitAnd (k / 2 ^ i) 1 == 1) [.lent a, .lent (.int k), .val (.int (i : Nat)), .val d] := by
  unfold kaC
  simp only [shr_nat, and_int, eq_ints, e_bok, e_bexc, e_bno, e_tok, e_texc, e_tno, e_snx, e_srt, e_sbk, e_sct, e_sexc, e_sno, e_getP, e_evE, e_evP, e_evN, e_evC, e_derN, e_derC, e_derBC, e_der, e_derP, e_sArgs, e_sOp, e_sDisp, e_sVar, e_mvVar, e_sC, e_cVal, e_cAnd, e_cOr, e_cNot, e_cTru, e_sAnd, e_sOr, e_sNot, e_sIf, e_bNil, e_bCons, e_bIf, e_bSet, e_bExpr, e_bRet, e_bRetN, e_bPass, e_stS, e_mutS, e_sMut, e_bPar, e_sCallV, e_sCallI, e_itP, e_itAP, e_itAE, e_itSeq, e_itEnum, e_itRng1, e_itRng2, e_oNo, e_oVal, e_oOwn, e_oIo, e_bFor, e_sComp, e_sDeal, e_cYes, kGet, kOpt, kLis, kE, kP, kAs1, kAs, kDer, kOp, kDisp, kVar, kMv, kVal, kAndT, kOrT, kNotT, kTru, kAndE, kOrE, kNotE, kIfE, kIfS, kNx, kSetS, kExp, kSt, kMut, kMut3, kMut2, kMut1, kMutA, kMut0, kPar2, kPar1, kPar0, kFn, kFnO, kCall, kIo, kIoO, kCallI, kCallI0, kItP, kItE, kSeq, kEnum, kForB, kComp1, kComp, kDeal2, kDeal1, kDeal0, List.getElem?_cons_succ, List.getElem?_cons_zero, List.set_cons_zero, List.set_cons_succ, List.length_nil, List.length_cons, Bool.false_and, Bool.and_false, Bool.true_and, Bool.and_true, Bool.not_true, Bool.not_false, Bool.false_eq_true, if_true, if_false, reduceIte, Option.map_some, Option.map_none, Option.bind_some, Option.bind_none, D.seals, D.isB, l1, l2, frz, frzA, oAppend, oPop, oPopAt, oExtend, mTup, mLst, Nat.zero_le, argsVL, ioC, seqOf, okSeq, unlS, unlock, unlO, unlI, derefB, D.truth]
theorem kaL_ok {a : D} {k : Int} : ∀ (xs : List Str) (i : Nat) (acc : List D), loopC [2, 3] kaT kaC (sVar 3) (enumD i (xs.map D.str)) [.lent a, .lent (.int k), .no, .no] acc = some (acc ++ (kbits k i xs).map D.str, [.lent a, .lent (.int k), .no, .no])
  | [], i, acc => by simp [enumD, loopC, kbits]
  | x :: r, i, acc => by
    have ih := kaL_ok (a := a) (k := k) r (i + 1)
    have hb : blankC [.lent a, .lent (.int k), .val (.int (i : Nat)), .val (.str x)] [2, 3] = some [.lent a, .lent (.int k), .no, .no] := rfl
    have hv : evArg (.e (sVar 3)) [.lent a, .lent (.int k), .val (.int (i : Nat)), .val (.str x)] = .ok (.d (.str x)) [.lent a, .lent (.int k), .val (.int (i : Nat)), .val (.str x)] := rfl
    have hc := kaC_ok (a := a) (d := .str x) (k := k) (i := i)
    show loopC [2, 3] kaT kaC (sVar 3) (.tup [.int (i : Nat), .str x] :: enumD (i + 1) (r.map D.str)) [.lent a, .lent (.int k), .no, .no] acc = _
    by_cases z : (Builtin.bitAnd (k / 2 ^ i) 1 == 1) = true
    · rw [z] at hc
      rw [loopC_yes kaT_ok hc hv hb, ih]
      rw [show kbits k i (x :: r) = x :: kbits k (i + 1) r by rw [kbits, if_pos z]]
      simp
    · have z' : (Builtin.bitAnd (k / 2 ^ i) 1 == 1) = false := by rw [← Bool.not_eq_true]; exact z
      rw [z'] at hc
      rw [loopC_no kaT_ok hc hb, ih]
      rw [show kbits k i (x :: r) = kbits k (i + 1) r by rw [kbits, if_neg z]]
theorem kind_at_ok {xs : List Str} {k : Int} (h : xs.length < 64) : M_kind_at [.lst (xs.map D.str), .int k] = .ok (false, .tup ((kbits k 0 xs).map D.str)) .non := by
  have hl : (enumD 0 (xs.map D.str)).length < sizeLine := by rw [enumD_length, List.length_map]; unfold sizeLine; omega
  have hc : sComp (itEnum (.p 0)) [2, 3] kaT kaC (sVar 3) [.lent (.lst (xs.map D.str)), .lent (.int k), .no, .no] = .ok (true, .lst ((kbits k 0 xs).map D.str)) [.lent (.lst (xs.map D.str)), .lent (.int k), .no, .no] := by
    have hi : itEnum (.p 0) [.lent (.lst (xs.map D.str)), .lent (.int k), .no, .no] = .ok (enumD 0 (xs.map D.str), .none) [.lent (.lst (xs.map D.str)), .lent (.int k), .no, .no] := rfl
    rw [e_sComp, hi, e_bok]
    unfold kComp
    rw [if_pos ⟨rfl, hl⟩]
    show kComp1 _ _ _ (loopC [2, 3] kaT kaC (sVar 3) (enumD 0 (xs.map D.str)) [.lent (.lst (xs.map D.str)), .lent (.int k), .no, .no] []) = _
    rw [kaL_ok]
    rfl
  have ht : dTuple (.lst ((kbits k 0 xs).map D.str)) = some (false, .tup ((kbits k 0 xs).map D.str)) := rfl
  refine runV_rt (n := 2) (md := [true, true]) (f := m_kind_at) (ρ := [.lent (.lst (xs.map D.str)), .lent (.int k), .no, .no]) ?_
  show bRet (sOp (l1 dTuple) [.e (sComp (itEnum (.p 0)) [2, 3] kaT kaC (sVar 3))]) [.lent (.lst (xs.map D.str)), .lent (.int k), .no, .no] = _
  simp only [hc, ht, e_bok, e_bexc, e_bno, e_tok, e_texc, e_tno, e_snx, e_srt, e_sbk, e_sct, e_sexc, e_sno, e_getP, e_evE, e_evP, e_evN, e_evC, e_derN, e_derC, e_derBC, e_der, e_derP, e_sArgs, e_sOp, e_sDisp, e_sVar, e_mvVar, e_sC, e_cVal, e_cAnd, e_cOr, e_cNot, e_cTru, e_sAnd, e_sOr, e_sNot, e_sIf, e_bNil, e_bCons, e_bIf, e_bSet, e_bExpr, e_bRet, e_bRetN, e_bPass, e_stS, e_mutS, e_sMut, e_bPar, e_sCallV, e_sCallI, e_itP, e_itAP, e_itAE, e_itSeq, e_itEnum, e_itRng1, e_itRng2, e_oNo, e_oVal, e_oOwn, e_oIo, e_bFor, e_sComp, e_sDeal, e_cYes, kGet, kOpt, kLis, kE, kP, kAs1, kAs, kDer, kOp, kDisp, kVar, kMv, kVal, kAndT, kOrT, kNotT, kTru, kAndE, kOrE, kNotE, kIfE, kIfS, kNx, kSetS, kExp, kSt, kMut, kMut3, kMut2, kMut1, kMutA, kMut0, kPar2, kPar1, kPar0, kFn, kFnO, kCall, kIo, kIoO, kCallI, kCallI0, kItP, kItE, kSeq, kEnum, kForB, kComp1, kComp, kDeal2, kDeal1, kDeal0, List.getElem?_cons_succ, List.getElem?_cons_zero, List.set_cons_zero, List.set_cons_succ, List.length_nil, List.length_cons, Bool.false_and, Bool.and_false, Bool.true_and, Bool.and_true, Bool.not_true, Bool.not_false, Bool.false_eq_true, if_true, if_false, reduceIte, Option.map_some, Option.map_none, Option.bind_some, Option.bind_none, D.seals, D.isB, l1, l2, frz, frzA, oAppend, oPop, oPopAt, oExtend, mTup, mLst, Nat.zero_le, argsVL, ioC, seqOf, okSeq, unlS, unlock, unlO, unlI, derefB, D.truth]
theorem loopC_map {own : List Nat} {st : TgS} {c : ST} {el : SE} {ρ : J.Env} {f : D → D} : ∀ (ds : List D), (∀ d ∈ ds, ∃ ρ1 ρ2 ρ3, st d ρ = some ρ1 ∧ c ρ1 = .ok true ρ2 ∧ evArg (.e el) ρ2 = .ok (.d (f d)) ρ3 ∧ blankC ρ3 own = some ρ) → ∀ acc, loopC own st c el ds ρ acc = some (acc ++ ds.map f, ρ)
  | [], _, acc => by simp [loopC]
  | d :: r, h, acc => by
    obtain ⟨ρ1, ρ2, ρ3, h1, h2, h3, h4⟩ := h d List.mem_cons_self
    rw [loopC_yes h1 h2 h3 h4, loopC_map r (fun x hx => h x (List.mem_cons_of_mem _ hx))]
    simp
def kindD (ys : List Str) : D → D
  | .int k => .tup ((kbits k 0 ys).map D.str)
  | _ => .non
def kindsD (ys : List Str) : List D := (rng 0 (2 ^ ys.length)).map (kindD ys)
theorem rng_cast {m : Nat} (h : m < 1000) : rOk (m : Int) = true := rOk_of (by omega) (by omega)
theorem shl_one {n : Nat} (h : n < 100) : dShl (.int 1) (.int (n : Nat)) = some (false, .int ((2 ^ n : Nat) : Int)) := by
  have hb : Builtin.Int.intBits 1 ≤ 1 := bits_le (by omega) (by omega)
  have h1 : (0 : Int) ≤ (n : Int) ∧ (Builtin.Int.intBits 1 : Int) + (n : Int) ≤ 2 ^ 27 := by omega
  have e := dII_ok (C := fun i j => decide (0 ≤ j ∧ (Builtin.Int.intBits i : Int) + j ≤ 2 ^ 27)) (f := fun i j => D.int (i * 2 ^ j.toNat)) (i := 1) (j := (n : Int)) (decide_eq_true h1)
  rw [Int.toNat_natCast, Int.one_mul] at e
  have e2 : ((2 ^ n : Nat) : Int) = 2 ^ n := by norm_cast
  rw [e2]
  exact e
theorem kinds_run {a : D} {xs ys : List Str} (ha : dSSet a = some (true, .lst (ys.map D.str))) (hy : ys.length < 10) : M_kinds [a] = .ok (false, .tup (kindsD ys)) .non := by
  have hp : 2 ^ ys.length ≤ 2 ^ 9 := Nat.pow_le_pow_right (by decide) (by omega)
  have hn : 2 ^ ys.length < 1000 := Nat.lt_of_le_of_lt hp (by decide)
  have s1 : bSet 1 (sOp (l1 dSSet) [.p 0]) [.lent a, .no, .no] = .nx [.lent a, .own (.lst (ys.map D.str)), .no] := by
    simp only [ha, e_bok, e_bexc, e_bno, e_tok, e_texc, e_tno, e_snx, e_srt, e_sbk, e_sct, e_sexc, e_sno, e_getP, e_evE, e_evP, e_evN, e_evC, e_derN, e_derC, e_derBC, e_der, e_derP, e_sArgs, e_sOp, e_sDisp, e_sVar, e_mvVar, e_sC, e_cVal, e_cAnd, e_cOr, e_cNot, e_cTru, e_sAnd, e_sOr, e_sNot, e_sIf, e_bNil, e_bCons, e_bIf, e_bSet, e_bExpr, e_bRet, e_bRetN, e_bPass, e_stS, e_mutS, e_sMut, e_bPar, e_sCallV, e_sCallI, e_itP, e_itAP, e_itAE, e_itSeq, e_itEnum, e_itRng1, e_itRng2, e_oNo, e_oVal, e_oOwn, e_oIo, e_bFor, e_sComp, e_sDeal, e_cYes, kGet, kOpt, kLis, kE, kP, kAs1, kAs, kDer, kOp, kDisp, kVar, kMv, kVal, kAndT, kOrT, kNotT, kTru, kAndE, kOrE, kNotE, kIfE, kIfS, kNx, kSetS, kExp, kSt, kMut, kMut3, kMut2, kMut1, kMutA, kMut0, kPar2, kPar1, kPar0, kFn, kFnO, kCall, kIo, kIoO, kCallI, kCallI0, kItP, kItE, kSeq, kEnum, kForB, kComp1, kComp, kDeal2, kDeal1, kDeal0, List.getElem?_cons_succ, List.getElem?_cons_zero, List.set_cons_zero, List.set_cons_succ, List.length_nil, List.length_cons, Bool.false_and, Bool.and_false, Bool.true_and, Bool.and_true, Bool.not_true, Bool.not_false, Bool.false_eq_true, if_true, if_false, reduceIte, Option.map_some, Option.map_none, Option.bind_some, Option.bind_none, D.seals, D.isB, l1, l2, frz, frzA, oAppend, oPop, oPopAt, oExtend, mTup, mLst, Nat.zero_le, argsVL, ioC, seqOf, okSeq, unlS, unlock, unlO, unlI, derefB, D.truth]
  have hlen : dLen (.lst (ys.map D.str)) = some (false, .int (ys.length : Nat)) := by
    show some (false, D.int ((ys.map D.str).length : Nat)) = _
    rw [List.length_map]
  have hshl : dShl (.int 1) (.int (ys.length : Nat)) = some (false, .int ((2 ^ ys.length : Nat) : Int)) := shl_one (by omega)
  have hs : sArgs [.e (sOp (l2 dShl) [.e (sC (.int 1)), .e (sOp (l1 dLen) [.p 1])])] [.lent a, .own (.lst (ys.map D.str)), .no] = .ok [.int ((2 ^ ys.length : Nat) : Int)] [.lent a, .own (.lst (ys.map D.str)), .no] := by
    simp only [hlen, hshl, e_bok, e_bexc, e_bno, e_tok, e_texc, e_tno, e_snx, e_srt, e_sbk, e_sct, e_sexc, e_sno, e_getP, e_evE, e_evP, e_evN, e_evC, e_derN, e_derC, e_derBC, e_der, e_derP, e_sArgs, e_sOp, e_sDisp, e_sVar, e_mvVar, e_sC, e_cVal, e_cAnd, e_cOr, e_cNot, e_cTru, e_sAnd, e_sOr, e_sNot, e_sIf, e_bNil, e_bCons, e_bIf, e_bSet, e_bExpr, e_bRet, e_bRetN, e_bPass, e_stS, e_mutS, e_sMut, e_bPar, e_sCallV, e_sCallI, e_itP, e_itAP, e_itAE, e_itSeq, e_itEnum, e_itRng1, e_itRng2, e_oNo, e_oVal, e_oOwn, e_oIo, e_bFor, e_sComp, e_sDeal, e_cYes, kGet, kOpt, kLis, kE, kP, kAs1, kAs, kDer, kOp, kDisp, kVar, kMv, kVal, kAndT, kOrT, kNotT, kTru, kAndE, kOrE, kNotE, kIfE, kIfS, kNx, kSetS, kExp, kSt, kMut, kMut3, kMut2, kMut1, kMutA, kMut0, kPar2, kPar1, kPar0, kFn, kFnO, kCall, kIo, kIoO, kCallI, kCallI0, kItP, kItE, kSeq, kEnum, kForB, kComp1, kComp, kDeal2, kDeal1, kDeal0, List.getElem?_cons_succ, List.getElem?_cons_zero, List.set_cons_zero, List.set_cons_succ, List.length_nil, List.length_cons, Bool.false_and, Bool.and_false, Bool.true_and, Bool.and_true, Bool.not_true, Bool.not_false, Bool.false_eq_true, if_true, if_false, reduceIte, Option.map_some, Option.map_none, Option.bind_some, Option.bind_none, D.seals, D.isB, l1, l2, frz, frzA, oAppend, oPop, oPopAt, oExtend, mTup, mLst, Nat.zero_le, argsVL, ioC, seqOf, okSeq, unlS, unlock, unlO, unlI, derefB, D.truth]
  have hi : itRng1 (.e (sOp (l2 dShl) [.e (sC (.int 1)), .e (sOp (l1 dLen) [.p 1])])) [.lent a, .own (.lst (ys.map D.str)), .no] = .ok (rng 0 (2 ^ ys.length), .none) [.lent a, .own (.lst (ys.map D.str)), .no] := by
    rw [e_itRng1, hs, e_bok, r1_ok (rng_cast hn)]
    rfl
  have hL := loopC_map (own := [2]) (st := J.stN 2) (c := cYes) (el := sCallV [true, true] M_kind_at [.p 1, .p 2]) (ρ := [.lent a, .own (.lst (ys.map D.str)), .no]) (f := kindD ys) (rng 0 (2 ^ ys.length)) (fun d hd => by
    obtain ⟨k, _, rfl⟩ := List.mem_map.mp hd
    have hk := kind_at_ok (xs := ys) (k := 0 + (k : Int)) (by omega)
    refine ⟨[.lent a, .own (.lst (ys.map D.str)), .val (.int (0 + (k : Int)))], _, [.lent a, .own (.lst (ys.map D.str)), .val (.int (0 + (k : Int)))], rfl, rfl, ?_, rfl⟩
    simp only [hk, kindD, e_bok, e_bexc, e_bno, e_tok, e_texc, e_tno, e_snx, e_srt, e_sbk, e_sct, e_sexc, e_sno, e_getP, e_evE, e_evP, e_evN, e_evC, e_derN, e_derC, e_derBC, e_der, e_derP, e_sArgs, e_sOp, e_sDisp, e_sVar, e_mvVar, e_sC, e_cVal, e_cAnd, e_cOr, e_cNot, e_cTru, e_sAnd, e_sOr, e_sNot, e_sIf, e_bNil, e_bCons, e_bIf, e_bSet, e_bExpr, e_bRet, e_bRetN, e_bPass, e_stS, e_mutS, e_sMut, e_bPar, e_sCallV, e_sCallI, e_itP, e_itAP, e_itAE, e_itSeq, e_itEnum, e_itRng1, e_itRng2, e_oNo, e_oVal, e_oOwn, e_oIo, e_bFor, e_sComp, e_sDeal, e_cYes, kGet, kOpt, kLis, kE, kP, kAs1, kAs, kDer, kOp, kDisp, kVar, kMv, kVal, kAndT, kOrT, kNotT, kTru, kAndE, kOrE, kNotE, kIfE, kIfS, kNx, kSetS, kExp, kSt, kMut, kMut3, kMut2, kMut1, kMutA, kMut0, kPar2, kPar1, kPar0, kFn, kFnO, kCall, kIo, kIoO, kCallI, kCallI0, kItP, kItE, kSeq, kEnum, kForB, kComp1, kComp, kDeal2, kDeal1, kDeal0, List.getElem?_cons_succ, List.getElem?_cons_zero, List.set_cons_zero, List.set_cons_succ, List.length_nil, List.length_cons, Bool.false_and, Bool.and_false, Bool.true_and, Bool.and_true, Bool.not_true, Bool.not_false, Bool.false_eq_true, if_true, if_false, reduceIte, Option.map_some, Option.map_none, Option.bind_some, Option.bind_none, D.seals, D.isB, l1, l2, frz, frzA, oAppend, oPop, oPopAt, oExtend, mTup, mLst, Nat.zero_le, argsVL, ioC, seqOf, okSeq, unlS, unlock, unlO, unlI, derefB, D.truth]) []
  have hc : sComp (itRng1 (.e (sOp (l2 dShl) [.e (sC (.int 1)), .e (sOp (l1 dLen) [.p 1])]))) [2] (J.stN 2) cYes (sCallV [true, true] M_kind_at [.p 1, .p 2]) [.lent a, .own (.lst (ys.map D.str)), .no] = .ok (true, .lst (kindsD ys)) [.lent a, .own (.lst (ys.map D.str)), .no] := by
    have hl : (rng 0 (2 ^ ys.length)).length < sizeLine := by
      unfold rng sizeLine
      rw [List.length_map, List.length_range]; omega
    rw [e_sComp, hi, e_bok]
    unfold kComp
    rw [if_pos ⟨rfl, hl⟩]
    show kComp1 _ _ _ (loopC [2] (J.stN 2) cYes (sCallV [true, true] M_kind_at [.p 1, .p 2]) (rng 0 (2 ^ ys.length)) [.lent a, .own (.lst (ys.map D.str)), .no] []) = _
    rw [hL]
    rfl
  have ht : dTuple (.lst (kindsD ys)) = some (false, .tup (kindsD ys)) := rfl
  refine runV_rt (n := 2) (md := [true]) (f := m_kinds) (ρ := [.lent a, .own (.lst (ys.map D.str)), .no]) ?_
  show bCons (bSet 1 (sOp (l1 dSSet) [.p 0])) _ _ = _
  rw [e_bCons]
  show seqS (bSet 1 (sOp (l1 dSSet) [.p 0]) [.lent a, .no, .no]) _ = _
  rw [s1, e_snx]
  simp only [hc, ht, e_bok, e_bexc, e_bno, e_tok, e_texc, e_tno, e_snx, e_srt, e_sbk, e_sct, e_sexc, e_sno, e_getP, e_evE, e_evP, e_evN, e_evC, e_derN, e_derC, e_derBC, e_der, e_derP, e_sArgs, e_sOp, e_sDisp, e_sVar, e_mvVar, e_sC, e_cVal, e_cAnd, e_cOr, e_cNot, e_cTru, e_sAnd, e_sOr, e_sNot, e_sIf, e_bNil, e_bCons, e_bIf, e_bSet, e_bExpr, e_bRet, e_bRetN, e_bPass, e_stS, e_mutS, e_sMut, e_bPar, e_sCallV, e_sCallI, e_itP, e_itAP, e_itAE, e_itSeq, e_itEnum, e_itRng1, e_itRng2, e_oNo, e_oVal, e_oOwn, e_oIo, e_bFor, e_sComp, e_sDeal, e_cYes, kGet, kOpt, kLis, kE, kP, kAs1, kAs, kDer, kOp, kDisp, kVar, kMv, kVal, kAndT, kOrT, kNotT, kTru, kAndE, kOrE, kNotE, kIfE, kIfS, kNx, kSetS, kExp, kSt, kMut, kMut3, kMut2, kMut1, kMutA, kMut0, kPar2, kPar1, kPar0, kFn, kFnO, kCall, kIo, kIoO, kCallI, kCallI0, kItP, kItE, kSeq, kEnum, kForB, kComp1, kComp, kDeal2, kDeal1, kDeal0, List.getElem?_cons_succ, List.getElem?_cons_zero, List.set_cons_zero, List.set_cons_succ, List.length_nil, List.length_cons, Bool.false_and, Bool.and_false, Bool.true_and, Bool.and_true, Bool.not_true, Bool.not_false, Bool.false_eq_true, if_true, if_false, reduceIte, Option.map_some, Option.map_none, Option.bind_some, Option.bind_none, D.seals, D.isB, l1, l2, frz, frzA, oAppend, oPop, oPopAt, oExtend, mTup, mLst, Nat.zero_le, argsVL, ioC, seqOf, okSeq, unlS, unlock, unlO, unlI, derefB, D.truth]
/-! ### the law's own kinds -/
def kD (k : List Str) : D := .tup (k.map D.str)
def fD (f : List (List Str)) : List D := f.map kD
def lk : List Str → List (List Str) → List (List Str)
  | [], f => f
  | y :: r, f => lk r (f ++ f.map (· ++ [y]))
def lkBody : SS := bSet 2 (sOp (l2 dAdd) [.p 2, .e (sComp (itSeq (.p 2)) [4] (J.stN 4) cYes (sOp (l2 dAdd) [.p 4, .e (sDisp mTup [.e (sVar 3)])]))])
def addK (y : Str) : D → D
  | .tup l => .tup (l ++ [.str y])
  | d => d
theorem lkBody_ok {a b : D} {f : List (List Str)} {y : Str} (hf : f.length < 1000) (hk : ∀ k ∈ f, k.length < 1000) : lkBody [.lent a, .lown b, .own (.lst (fD f)), .val (.str y), .no] = .nx [.lent a, .lown b, .own (.lst (fD (f ++ f.map (· ++ [y])))), .val (.str y), .no] := by
  have hi : itSeq (.p 2) [.lent a, .lown b, .own (.lst (fD f)), .val (.str y), .no] = .ok (fD f, .own 2) [.lent a, .lown b, .lown (.lst (fD f)), .val (.str y), .no] := rfl
  have hlen : (fD f).length = f.length := by unfold fD; rw [List.length_map]
  have hL := loopC_map (own := [4]) (st := J.stN 4) (c := cYes) (el := sOp (l2 dAdd) [.p 4, .e (sDisp mTup [.e (sVar 3)])]) (ρ := [.lent a, .lown b, .lown (.lst (fD f)), .val (.str y), .no]) (f := addK y) (fD f) (fun d hd => by
    obtain ⟨k, hk', rfl⟩ := List.mem_map.mp hd
    refine ⟨[.lent a, .lown b, .lown (.lst (fD f)), .val (.str y), .val (kD k)], _, [.lent a, .lown b, .lown (.lst (fD f)), .val (.str y), .val (kD k)], rfl, rfl, ?_, rfl⟩
    have hs : dAdd (kD k) (.tup [.str y]) = some (false, .tup (k.map D.str ++ [.str y])) := by
      show (if _ then _ else _) = _
      rw [if_pos (by
        have := hk k hk'
        rw [List.length_map]
        show k.length + 1 ≤ 16777216
        omega)]
    have hz : 0 + 1 ≤ sizeLine := by show 1 ≤ 16777216; omega
    have h2 : addK y (kD k) = .tup (k.map D.str ++ [.str y]) := rfl
    simp only [hs, hz, h2, e_bok, e_bexc, e_bno, e_tok, e_texc, e_tno, e_snx, e_srt, e_sbk, e_sct, e_sexc, e_sno, e_getP, e_evE, e_evP, e_evN, e_evC, e_derN, e_derC, e_derBC, e_der, e_derP, e_sArgs, e_sOp, e_sDisp, e_sVar, e_mvVar, e_sC, e_cVal, e_cAnd, e_cOr, e_cNot, e_cTru, e_sAnd, e_sOr, e_sNot, e_sIf, e_bNil, e_bCons, e_bIf, e_bSet, e_bExpr, e_bRet, e_bRetN, e_bPass, e_stS, e_mutS, e_sMut, e_bPar, e_sCallV, e_sCallI, e_itP, e_itAP, e_itAE, e_itSeq, e_itEnum, e_itRng1, e_itRng2, e_oNo, e_oVal, e_oOwn, e_oIo, e_bFor, e_sComp, e_sDeal, e_cYes, kGet, kOpt, kLis, kE, kP, kAs1, kAs, kDer, kOp, kDisp, kVar, kMv, kVal, kAndT, kOrT, kNotT, kTru, kAndE, kOrE, kNotE, kIfE, kIfS, kNx, kSetS, kExp, kSt, kMut, kMut3, kMut2, kMut1, kMutA, kMut0, kPar2, kPar1, kPar0, kFn, kFnO, kCall, kIo, kIoO, kCallI, kCallI0, kItP, kItE, kSeq, kEnum, kForB, kComp1, kComp, kDeal2, kDeal1, kDeal0, List.getElem?_cons_succ, List.getElem?_cons_zero, List.set_cons_zero, List.set_cons_succ, List.length_nil, List.length_cons, Bool.false_and, Bool.and_false, Bool.true_and, Bool.and_true, Bool.not_true, Bool.not_false, Bool.false_eq_true, if_true, if_false, reduceIte, Option.map_some, Option.map_none, Option.bind_some, Option.bind_none, D.seals, D.isB, l1, l2, frz, frzA, oAppend, oPop, oPopAt, oExtend, mTup, mLst, Nat.zero_le, argsVL, ioC, seqOf, okSeq, unlS, unlock, unlO, unlI, derefB, D.truth]) []
  have hm : (fD f).map (addK y) = fD (f.map (· ++ [y])) := by
    unfold fD
    rw [List.map_map, List.map_map]
    refine List.map_congr_left fun k _ => ?_
    show D.tup (k.map D.str ++ [.str y]) = D.tup ((k ++ [y]).map D.str)
    rw [List.map_append]; rfl
  have hc : sComp (itSeq (.p 2)) [4] (J.stN 4) cYes (sOp (l2 dAdd) [.p 4, .e (sDisp mTup [.e (sVar 3)])]) [.lent a, .lown b, .own (.lst (fD f)), .val (.str y), .no] = .ok (true, .lst (fD (f.map (· ++ [y])))) [.lent a, .lown b, .own (.lst (fD f)), .val (.str y), .no] := by
    rw [e_sComp, hi, e_bok]
    unfold kComp
    rw [if_pos ⟨rfl, by show (fD f).length < _; rw [hlen]; unfold sizeLine; omega⟩]
    show kComp1 _ _ _ (loopC [4] (J.stN 4) cYes (sOp (l2 dAdd) [.p 4, .e (sDisp mTup [.e (sVar 3)])]) (fD f) [.lent a, .lown b, .lown (.lst (fD f)), .val (.str y), .no] []) = _
    rw [hL, hm]
    rfl
  have hadd : dAdd (.lst (fD f)) (.lst (fD (f.map (· ++ [y])))) = some (true, .lst (fD (f ++ f.map (· ++ [y])))) := by
    show (if _ then _ else _) = _
    rw [if_pos (by
      rw [hlen]
      unfold fD
      rw [List.length_map, List.length_map]
      show f.length + f.length ≤ 16777216
      omega)]
    unfold fD
    rw [List.map_append]
  unfold lkBody
  simp only [hc, hadd, e_bok, e_bexc, e_bno, e_tok, e_texc, e_tno, e_snx, e_srt, e_sbk, e_sct, e_sexc, e_sno, e_getP, e_evE, e_evP, e_evN, e_evC, e_derN, e_derC, e_derBC, e_der, e_derP, e_sArgs, e_sOp, e_sDisp, e_sVar, e_mvVar, e_sC, e_cVal, e_cAnd, e_cOr, e_cNot, e_cTru, e_sAnd, e_sOr, e_sNot, e_sIf, e_bNil, e_bCons, e_bIf, e_bSet, e_bExpr, e_bRet, e_bRetN, e_bPass, e_stS, e_mutS, e_sMut, e_bPar, e_sCallV, e_sCallI, e_itP, e_itAP, e_itAE, e_itSeq, e_itEnum, e_itRng1, e_itRng2, e_oNo, e_oVal, e_oOwn, e_oIo, e_bFor, e_sComp, e_sDeal, e_cYes, kGet, kOpt, kLis, kE, kP, kAs1, kAs, kDer, kOp, kDisp, kVar, kMv, kVal, kAndT, kOrT, kNotT, kTru, kAndE, kOrE, kNotE, kIfE, kIfS, kNx, kSetS, kExp, kSt, kMut, kMut3, kMut2, kMut1, kMutA, kMut0, kPar2, kPar1, kPar0, kFn, kFnO, kCall, kIo, kIoO, kCallI, kCallI0, kItP, kItE, kSeq, kEnum, kForB, kComp1, kComp, kDeal2, kDeal1, kDeal0, List.getElem?_cons_succ, List.getElem?_cons_zero, List.set_cons_zero, List.set_cons_succ, List.length_nil, List.length_cons, Bool.false_and, Bool.and_false, Bool.true_and, Bool.and_true, Bool.not_true, Bool.not_false, Bool.false_eq_true, if_true, if_false, reduceIte, Option.map_some, Option.map_none, Option.bind_some, Option.bind_none, D.seals, D.isB, l1, l2, frz, frzA, oAppend, oPop, oPopAt, oExtend, mTup, mLst, Nat.zero_le, argsVL, ioC, seqOf, okSeq, unlS, unlock, unlO, unlI, derefB, D.truth]
theorem lkLoop {a b : D} : ∀ (ys : List Str) (f : List (List Str)) (t : Slot), f.length * 2 ^ ys.length < 1000 → (∀ k ∈ f, k.length + ys.length < 1000) → t.open = true →
    ∃ t', loopF (J.stN 3) lkBody (ys.map D.str) [.lent a, .lown b, .own (.lst (fD f)), t, .no] = .nx [.lent a, .lown b, .own (.lst (fD (lk ys f))), t', .no]
  | [], f, t, _, _, ht => ⟨t, rfl⟩
  | y :: r, f, t, h1, h2, ht => by
    have hp : 1 ≤ 2 ^ r.length := Nat.one_le_two_pow
    have e2 : f.length * 2 ^ (r.length + 1) = (f.length + f.length) * 2 ^ r.length := by rw [Nat.pow_succ, Nat.add_mul, ← Nat.mul_assoc, Nat.mul_two]
    have h1 : (f.length + f.length) * 2 ^ r.length < 1000 := by rw [← e2]; exact h1
    have hm : f.length + f.length ≤ (f.length + f.length) * 2 ^ r.length := Nat.le_mul_of_pos_right _ hp
    have st : J.stN 3 (.str y) [.lent a, .lown b, .own (.lst (fD f)), t, .no] = some [.lent a, .lown b, .own (.lst (fD f)), .val (.str y), .no] := by
      simp only [J.stN, ht, e_bok, e_bexc, e_bno, e_tok, e_texc, e_tno, e_snx, e_srt, e_sbk, e_sct, e_sexc, e_sno, e_getP, e_evE, e_evP, e_evN, e_evC, e_derN, e_derC, e_derBC, e_der, e_derP, e_sArgs, e_sOp, e_sDisp, e_sVar, e_mvVar, e_sC, e_cVal, e_cAnd, e_cOr, e_cNot, e_cTru, e_sAnd, e_sOr, e_sNot, e_sIf, e_bNil, e_bCons, e_bIf, e_bSet, e_bExpr, e_bRet, e_bRetN, e_bPass, e_stS, e_mutS, e_sMut, e_bPar, e_sCallV, e_sCallI, e_itP, e_itAP, e_itAE, e_itSeq, e_itEnum, e_itRng1, e_itRng2, e_oNo, e_oVal, e_oOwn, e_oIo, e_bFor, e_sComp, e_sDeal, e_cYes, kGet, kOpt, kLis, kE, kP, kAs1, kAs, kDer, kOp, kDisp, kVar, kMv, kVal, kAndT, kOrT, kNotT, kTru, kAndE, kOrE, kNotE, kIfE, kIfS, kNx, kSetS, kExp, kSt, kMut, kMut3, kMut2, kMut1, kMutA, kMut0, kPar2, kPar1, kPar0, kFn, kFnO, kCall, kIo, kIoO, kCallI, kCallI0, kItP, kItE, kSeq, kEnum, kForB, kComp1, kComp, kDeal2, kDeal1, kDeal0, List.getElem?_cons_succ, List.getElem?_cons_zero, List.set_cons_zero, List.set_cons_succ, List.length_nil, List.length_cons, Bool.false_and, Bool.and_false, Bool.true_and, Bool.and_true, Bool.not_true, Bool.not_false, Bool.false_eq_true, if_true, if_false, reduceIte, Option.map_some, Option.map_none, Option.bind_some, Option.bind_none, D.seals, D.isB, l1, l2, frz, frzA, oAppend, oPop, oPopAt, oExtend, mTup, mLst, Nat.zero_le, argsVL, ioC, seqOf, okSeq, unlS, unlock, unlO, unlI, derefB, D.truth]
    have hb := lkBody_ok (a := a) (b := b) (f := f) (y := y) (by omega) (fun k hk => by have := h2 k hk; simp at this; omega)
    rw [List.map_cons, loopF_cons st hb]
    refine lkLoop r (f ++ f.map (· ++ [y])) (.val (.str y)) ?_ (fun k hk => ?_) rfl
    · rw [List.length_append, List.length_map]; exact h1
    · rcases List.mem_append.mp hk with hk | hk
      · have := h2 k hk; simp at this; omega
      · obtain ⟨k', hk', rfl⟩ := List.mem_map.mp hk
        have := h2 k' hk'
        simp at this ⊢; omega
theorem law_kinds_run {xs : List Str} (h : xs.length < 9) : M__law_kinds [.lst (xs.map D.str)] = .ok (true, .lst (fD (lk (sset xs) [[]]))) .non := by
  have hle := sset_len xs
  have hL := loopC_map (own := [3]) (st := J.stN 3) (c := cYes) (el := sOp (l1 dStr) [.p 3]) (ρ := [.lent (.lst (xs.map D.str)), .no, .no, .no, .no]) (f := id) (xs.map D.str) (fun d hd => by
    obtain ⟨x, _, rfl⟩ := List.mem_map.mp hd
    have hs : dStr (.str x) = some (false, .str x) := rfl
    refine ⟨[.lent (.lst (xs.map D.str)), .no, .no, .val (.str x), .no], _, [.lent (.lst (xs.map D.str)), .no, .no, .val (.str x), .no], rfl, rfl, ?_, rfl⟩
    simp only [hs, id, e_bok, e_bexc, e_bno, e_tok, e_texc, e_tno, e_snx, e_srt, e_sbk, e_sct, e_sexc, e_sno, e_getP, e_evE, e_evP, e_evN, e_evC, e_derN, e_derC, e_derBC, e_der, e_derP, e_sArgs, e_sOp, e_sDisp, e_sVar, e_mvVar, e_sC, e_cVal, e_cAnd, e_cOr, e_cNot, e_cTru, e_sAnd, e_sOr, e_sNot, e_sIf, e_bNil, e_bCons, e_bIf, e_bSet, e_bExpr, e_bRet, e_bRetN, e_bPass, e_stS, e_mutS, e_sMut, e_bPar, e_sCallV, e_sCallI, e_itP, e_itAP, e_itAE, e_itSeq, e_itEnum, e_itRng1, e_itRng2, e_oNo, e_oVal, e_oOwn, e_oIo, e_bFor, e_sComp, e_sDeal, e_cYes, kGet, kOpt, kLis, kE, kP, kAs1, kAs, kDer, kOp, kDisp, kVar, kMv, kVal, kAndT, kOrT, kNotT, kTru, kAndE, kOrE, kNotE, kIfE, kIfS, kNx, kSetS, kExp, kSt, kMut, kMut3, kMut2, kMut1, kMutA, kMut0, kPar2, kPar1, kPar0, kFn, kFnO, kCall, kIo, kIoO, kCallI, kCallI0, kItP, kItE, kSeq, kEnum, kForB, kComp1, kComp, kDeal2, kDeal1, kDeal0, List.getElem?_cons_succ, List.getElem?_cons_zero, List.set_cons_zero, List.set_cons_succ, List.length_nil, List.length_cons, Bool.false_and, Bool.and_false, Bool.true_and, Bool.and_true, Bool.not_true, Bool.not_false, Bool.false_eq_true, if_true, if_false, reduceIte, Option.map_some, Option.map_none, Option.bind_some, Option.bind_none, D.seals, D.isB, l1, l2, frz, frzA, oAppend, oPop, oPopAt, oExtend, mTup, mLst, Nat.zero_le, argsVL, ioC, seqOf, okSeq, unlS, unlock, unlO, unlI, derefB, D.truth]) []
  have hi : itSeq (.p 0) [.lent (.lst (xs.map D.str)), .no, .no, .no, .no] = .ok (xs.map D.str, .none) [.lent (.lst (xs.map D.str)), .no, .no, .no, .no] := rfl
  have hc : sComp (itSeq (.p 0)) [3] (J.stN 3) cYes (sOp (l1 dStr) [.p 3]) [.lent (.lst (xs.map D.str)), .no, .no, .no, .no] = .ok (true, .lst (xs.map D.str)) [.lent (.lst (xs.map D.str)), .no, .no, .no, .no] := by
    rw [e_sComp, hi, e_bok]
    unfold kComp
    rw [if_pos ⟨rfl, by show (xs.map D.str).length < _; rw [List.length_map]; unfold sizeLine; omega⟩]
    show kComp1 _ _ _ (loopC [3] (J.stN 3) cYes (sOp (l1 dStr) [.p 3]) (xs.map D.str) [.lent (.lst (xs.map D.str)), .no, .no, .no, .no] []) = _
    rw [hL, List.map_id]
    rfl
  have hs : dSSet (.lst (xs.map D.str)) = some (true, .lst ((sset xs).map D.str)) := by
    show (D.strs (xs.map D.str)).bind _ = _
    rw [J.strs_map, Option.bind_some, if_pos (by omega)]
  have h1 : bPar 1 2 (sOp (l1 dSSet) [.e (sComp (itSeq (.p 0)) [3] (J.stN 3) cYes (sOp (l1 dStr) [.p 3]))]) (sDisp mLst [.e (sDisp mTup [])]) [.lent (.lst (xs.map D.str)), .no, .no, .no, .no] = .nx [.lent (.lst (xs.map D.str)), .own (.lst ((sset xs).map D.str)), .own (.lst (fD [[]])), .no, .no] := by
    have hz : 0 + 1 ≤ sizeLine := by show 1 ≤ 16777216; omega
    have hf : fD [[]] = [.tup []] := rfl
    simp only [hc, hs, hz, hf, e_bok, e_bexc, e_bno, e_tok, e_texc, e_tno, e_snx, e_srt, e_sbk, e_sct, e_sexc, e_sno, e_getP, e_evE, e_evP, e_evN, e_evC, e_derN, e_derC, e_derBC, e_der, e_derP, e_sArgs, e_sOp, e_sDisp, e_sVar, e_mvVar, e_sC, e_cVal, e_cAnd, e_cOr, e_cNot, e_cTru, e_sAnd, e_sOr, e_sNot, e_sIf, e_bNil, e_bCons, e_bIf, e_bSet, e_bExpr, e_bRet, e_bRetN, e_bPass, e_stS, e_mutS, e_sMut, e_bPar, e_sCallV, e_sCallI, e_itP, e_itAP, e_itAE, e_itSeq, e_itEnum, e_itRng1, e_itRng2, e_oNo, e_oVal, e_oOwn, e_oIo, e_bFor, e_sComp, e_sDeal, e_cYes, kGet, kOpt, kLis, kE, kP, kAs1, kAs, kDer, kOp, kDisp, kVar, kMv, kVal, kAndT, kOrT, kNotT, kTru, kAndE, kOrE, kNotE, kIfE, kIfS, kNx, kSetS, kExp, kSt, kMut, kMut3, kMut2, kMut1, kMutA, kMut0, kPar2, kPar1, kPar0, kFn, kFnO, kCall, kIo, kIoO, kCallI, kCallI0, kItP, kItE, kSeq, kEnum, kForB, kComp1, kComp, kDeal2, kDeal1, kDeal0, List.getElem?_cons_succ, List.getElem?_cons_zero, List.set_cons_zero, List.set_cons_succ, List.length_nil, List.length_cons, Bool.false_and, Bool.and_false, Bool.true_and, Bool.and_true, Bool.not_true, Bool.not_false, Bool.false_eq_true, if_true, if_false, reduceIte, Option.map_some, Option.map_none, Option.bind_some, Option.bind_none, D.seals, D.isB, l1, l2, frz, frzA, oAppend, oPop, oPopAt, oExtend, mTup, mLst, Nat.zero_le, argsVL, ioC, seqOf, okSeq, unlS, unlock, unlO, unlI, derefB, D.truth]
  have hp : 2 ^ (sset xs).length ≤ 2 ^ 8 := Nat.pow_le_pow_right (by decide) (by omega)
  obtain ⟨t, e⟩ := lkLoop (a := .lst (xs.map D.str)) (b := .lst ((sset xs).map D.str)) (sset xs) [[]] .no (by simp; omega) (by simp; omega) rfl
  have h2 : bFor (itSeq (.p 1)) (J.stN 3) lkBody [.lent (.lst (xs.map D.str)), .own (.lst ((sset xs).map D.str)), .own (.lst (fD [[]])), .no, .no] = .nx [.lent (.lst (xs.map D.str)), .own (.lst ((sset xs).map D.str)), .own (.lst (fD (lk (sset xs) [[]]))), t, .no] := by
    rw [e_bFor]
    show unlS (.own 1) (loopF (J.stN 3) lkBody ((sset xs).map D.str) [.lent (.lst (xs.map D.str)), .lown (.lst ((sset xs).map D.str)), .own (.lst (fD [[]])), .no, .no]) = _
    rw [e]
    rfl
  refine runV_rt (n := 4) (md := [true]) (f := m__law_kinds) (ρ := [.lent (.lst (xs.map D.str)), .own (.lst ((sset xs).map D.str)), .no, t, .no]) ?_
  show bCons (bPar 1 2 _ _) (bCons (bFor (itSeq (.p 1)) (J.stN 3) lkBody) (bRet (mvVar 2))) [.lent (.lst (xs.map D.str)), .no, .no, .no, .no] = _
  rw [e_bCons, h1, e_snx, e_bCons, h2, e_snx]
  rfl
/-! ### both are the same -/
theorem bit1 (k : Nat) (i : Nat) : (Builtin.bitAnd ((k : Int) / 2 ^ i) 1 == 1) = k.testBit i := by
  have h := Bits.bit_at (x := (k : Int)) i
  rw [Int.fdiv_eq_ediv_of_nonneg _ (by exact Int.le_of_lt (Int.pow_pos (by decide)))] at h
  rw [h, Nat.testBit_eq_decide_div_mod_eq]
  have e : ((k : Int) / 2 ^ i % 2) = ((k / 2 ^ i % 2 : Nat) : Int) := by norm_cast
  rw [e]
  by_cases z : k / 2 ^ i % 2 = 1
  · rw [z]; rfl
  · rw [decide_eq_false z]
    have : ((k / 2 ^ i % 2 : Nat) : Int) ≠ 1 := by omega
    simpa using this
theorem kbits_app (k : Nat) (y : Str) : ∀ (i : Nat) (p : List Str), kbits k i (p ++ [y]) = kbits k i p ++ (if k.testBit (i + p.length) = true then [y] else [])
  | i, [] => by
    show (if (Builtin.bitAnd ((k : Int) / 2 ^ i) 1 == 1) = true then y :: kbits k (i + 1) [] else kbits k (i + 1) []) = [] ++ (if k.testBit (i + 0) = true then [y] else [])
    rw [bit1]
    rfl
  | i, x :: r => by
    have ih := kbits_app k y (i + 1) r
    have e : i + (x :: r).length = i + 1 + r.length := by simp; omega
    rw [List.cons_append, kbits, kbits, ih, e]
    split <;> rfl
theorem kbits_up {m j : Nat} : ∀ (i : Nat) (p : List Str), i + p.length ≤ m → kbits ((2 ^ m + j : Nat) : Int) i p = kbits (j : Int) i p
  | i, [], _ => by rw [kbits, kbits]
  | i, x :: r, h => by
    have h : i + (r.length + 1) ≤ m := h
    rw [kbits, kbits, kbits_up (i + 1) r (by omega), bit1, bit1, Nat.testBit_two_pow_add_gt (by omega)]
theorem lk_eq : ∀ (ys p : List Str), lk ys ((List.range (2 ^ p.length)).map fun (k : Nat) => kbits k 0 p) = (List.range (2 ^ (p ++ ys).length)).map fun (k : Nat) => kbits k 0 (p ++ ys)
  | [], p => by rw [List.append_nil, lk]
  | y :: r, p => by
    have ih := lk_eq r (p ++ [y])
    have step : ((List.range (2 ^ p.length)).map fun (k : Nat) => kbits k 0 p) ++ ((List.range (2 ^ p.length)).map fun (k : Nat) => kbits k 0 p).map (· ++ [y]) = (List.range (2 ^ (p ++ [y]).length)).map fun (k : Nat) => kbits k 0 (p ++ [y]) := by
      have e : 2 ^ (p ++ [y]).length = 2 ^ p.length + 2 ^ p.length := by rw [List.length_append, List.length_singleton, Nat.pow_succ, Nat.mul_two]
      rw [e, List.range_add, List.map_append, List.map_map, List.map_map]
      congr 1
      · refine List.map_congr_left fun k hk => ?_
        rw [kbits_app, Nat.zero_add, Nat.testBit_lt_two_pow (List.mem_range.mp hk)]
        simp
      · refine List.map_congr_left fun k hk => ?_
        show kbits k 0 p ++ [y] = kbits ((2 ^ p.length + k : Nat) : Int) 0 (p ++ [y])
        rw [kbits_app, kbits_up 0 p (by omega), Nat.zero_add, Nat.testBit_two_pow_add_eq, Nat.testBit_lt_two_pow (List.mem_range.mp hk)]
        rfl
    rw [lk, step, ih, List.append_assoc]
    rfl
theorem kinds_same (ys : List Str) : fD (lk ys [[]]) = kindsD ys := by
  have h := lk_eq ys []
  have e : ((List.range (2 ^ ([] : List Str).length)).map fun (k : Nat) => kbits k 0 []) = [[]] := rfl
  rw [e, List.nil_append] at h
  rw [h]
  unfold fD kindsD rng
  rw [List.map_map, List.map_map]
  refine List.map_congr_left fun k _ => ?_
  show D.tup ((kbits k 0 ys).map D.str) = D.tup ((kbits (0 + (k : Int)) 0 ys).map D.str)
  rw [Int.zero_add]
/-! ### the end -/
theorem end1 : dEq (.tup (kindsD [])) (.tup [.tup []]) = some (false, .bl true) := by rfl
def isTrueD : Option (Bool × D) → Bool
  | some (false, .bl b) => b
  | _ => false
theorem isTrueD_eq {o : Option (Bool × D)} (h : isTrueD o = true) : o = some (false, .bl true) := by
  rcases o with _ | ⟨fr, d⟩
  · cases h
  · cases fr with
    | true => cases h
    | false =>
      cases d with
      | bl b =>
        have h : b = true := h
        rw [h]
      | _ => cases h
theorem sset_ba : sset ["b", "a"] = (["a", "b"] : List Str) := by decide +kernel
theorem end2 : dEq (.tup (kindsD ["a", "b"])) (.tup [.tup [], .tup [.str "a"], .tup [.str "b"], .tup [.str "a", .str "b"]]) = some (false, .bl true) := isTrueD_eq (by decide +kernel)
def endE : SE := sAnd (sOp (l2 dEq) [.e (sCallV [true] (M_kinds) [.e (sDisp mLst [])]), .e (sDisp mTup [.e (sDisp mTup [])])]) (sOp (l2 dEq) [.e (sCallV [true] (M_kinds) [.e (sDisp mTup [.e (sC (.str "b")), .e (sC (.str "a"))])]), .e (sDisp mTup [.e (sDisp mTup []), .e (sDisp mTup [.e (sC (.str "a"))]), .e (sDisp mTup [.e (sC (.str "b"))]), .e (sDisp mTup [.e (sC (.str "a")), .e (sC (.str "b"))])])])
theorem end_ok (ρ : J.Env) : endE ρ = .ok (false, .bl true) ρ := by
  have k1 := kinds_run (a := .lst []) (xs := []) (ys := []) rfl (by decide)
  have k2 := kinds_run (a := .tup [.str "b", .str "a"]) (xs := []) (ys := ["a", "b"]) (by rw [← sset_ba]; rfl) (by decide)
  have z1 : 0 + 1 ≤ sizeLine := by show 1 ≤ 16777216; omega
  have z2 : 0 + 1 + 1 ≤ sizeLine := by show 2 ≤ 16777216; omega
  have z4 : 0 + 1 + 1 + 1 + 1 ≤ sizeLine := by show 4 ≤ 16777216; omega
  unfold endE
  simp only [k1, k2, end1, end2, z1, z2, z4, e_bok, e_bexc, e_bno, e_tok, e_texc, e_tno, e_snx, e_srt, e_sbk, e_sct, e_sexc, e_sno, e_getP, e_evE, e_evP, e_evN, e_evC, e_derN, e_derC, e_derBC, e_der, e_derP, e_sArgs, e_sOp, e_sDisp, e_sVar, e_mvVar, e_sC, e_cVal, e_cAnd, e_cOr, e_cNot, e_cTru, e_sAnd, e_sOr, e_sNot, e_sIf, e_bNil, e_bCons, e_bIf, e_bSet, e_bExpr, e_bRet, e_bRetN, e_bPass, e_stS, e_mutS, e_sMut, e_bPar, e_sCallV, e_sCallI, e_itP, e_itAP, e_itAE, e_itSeq, e_itEnum, e_itRng1, e_itRng2, e_oNo, e_oVal, e_oOwn, e_oIo, e_bFor, e_sComp, e_sDeal, e_cYes, kGet, kOpt, kLis, kE, kP, kAs1, kAs, kDer, kOp, kDisp, kVar, kMv, kVal, kAndT, kOrT, kNotT, kTru, kAndE, kOrE, kNotE, kIfE, kIfS, kNx, kSetS, kExp, kSt, kMut, kMut3, kMut2, kMut1, kMutA, kMut0, kPar2, kPar1, kPar0, kFn, kFnO, kCall, kIo, kIoO, kCallI, kCallI0, kItP, kItE, kSeq, kEnum, kForB, kComp1, kComp, kDeal2, kDeal1, kDeal0, List.getElem?_cons_succ, List.getElem?_cons_zero, List.set_cons_zero, List.set_cons_succ, List.length_nil, List.length_cons, Bool.false_and, Bool.and_false, Bool.true_and, Bool.and_true, Bool.not_true, Bool.not_false, Bool.false_eq_true, if_true, if_false, reduceIte, Option.map_some, Option.map_none, Option.bind_some, Option.bind_none, D.seals, D.isB, l1, l2, frz, frzA, oAppend, oPop, oPopAt, oExtend, mTup, mLst, Nat.zero_le, argsVL, ioC, seqOf, okSeq, unlS, unlock, unlO, unlI, derefB, D.truth]
/-! ### where the draws come from -/
def absI (i : Int) : Int := if i < 0 then -i else i
def absD : D → D
  | .int i => .int (absI i)
  | d => d
theorem cut_map (ns : List Int) (lo hi : Option Int) : J.cutD (ns.map D.int) lo hi = (J.cutD ns lo hi).map D.int := by
  unfold J.cutD
  rw [List.length_map, List.map_take, List.map_drop]
theorem cut_len (ns : List Int) (lo hi : Option Int) : (J.cutD ns lo hi).length ≤ ns.length := by
  unfold J.cutD
  rw [List.length_take, List.length_drop]; omega
def cellsE : SE := sComp (itSeq (.e (sSl11 (.p 0) (.p 1) (.e (sC (.int 60)))))) [3] (J.stN 3) cYes (sOp (l1 dAbs) [.e (sOp (l1 dInt) [.p 3])])
def cells (ns : List Int) : List Int := (J.cutD ns (some 0) (some 60)).map absI
theorem cells_ok {ns : List Int} (h : ns.length < 64) : cellsE [.lent (.scr ns), .lent (.int 0), .no, .no, .no, .no] = .ok (true, .lst ((cells ns).map D.int)) [.lent (.scr ns), .lent (.int 0), .no, .no, .no, .no] := by
  have hl := cut_len ns (some 0) (some 60)
  have hi : itSeq (.e (sSl11 (.p 0) (.p 1) (.e (sC (.int 60))))) [.lent (.scr ns), .lent (.int 0), .no, .no, .no, .no] = .ok ((J.cutD ns (some 0) (some 60)).map D.int, .none) [.lent (.scr ns), .lent (.int 0), .no, .no, .no, .no] := by
    rw [← cut_map]
    rfl
  have hL := loopC_map (own := [3]) (st := J.stN 3) (c := cYes) (el := sOp (l1 dAbs) [.e (sOp (l1 dInt) [.p 3])]) (ρ := [.lent (.scr ns), .lent (.int 0), .no, .no, .no, .no]) (f := absD) ((J.cutD ns (some 0) (some 60)).map D.int) (fun d hd => by
    obtain ⟨c, _, rfl⟩ := List.mem_map.mp hd
    have h1 : dInt (.int c) = some (false, .int c) := rfl
    have h2 : dAbs (.int c) = some (false, .int (absI c)) := rfl
    have h3 : absD (.int c) = .int (absI c) := rfl
    refine ⟨[.lent (.scr ns), .lent (.int 0), .no, .val (.int c), .no, .no], _, [.lent (.scr ns), .lent (.int 0), .no, .val (.int c), .no, .no], rfl, rfl, ?_, rfl⟩
    simp only [h1, h2, h3, e_bok, e_bexc, e_bno, e_tok, e_texc, e_tno, e_snx, e_srt, e_sbk, e_sct, e_sexc, e_sno, e_getP, e_evE, e_evP, e_evN, e_evC, e_derN, e_derC, e_derBC, e_der, e_derP, e_sArgs, e_sOp, e_sDisp, e_sVar, e_mvVar, e_sC, e_cVal, e_cAnd, e_cOr, e_cNot, e_cTru, e_sAnd, e_sOr, e_sNot, e_sIf, e_bNil, e_bCons, e_bIf, e_bSet, e_bExpr, e_bRet, e_bRetN, e_bPass, e_stS, e_mutS, e_sMut, e_bPar, e_sCallV, e_sCallI, e_itP, e_itAP, e_itAE, e_itSeq, e_itEnum, e_itRng1, e_itRng2, e_oNo, e_oVal, e_oOwn, e_oIo, e_bFor, e_sComp, e_sDeal, e_cYes, kGet, kOpt, kLis, kE, kP, kAs1, kAs, kDer, kOp, kDisp, kVar, kMv, kVal, kAndT, kOrT, kNotT, kTru, kAndE, kOrE, kNotE, kIfE, kIfS, kNx, kSetS, kExp, kSt, kMut, kMut3, kMut2, kMut1, kMutA, kMut0, kPar2, kPar1, kPar0, kFn, kFnO, kCall, kIo, kIoO, kCallI, kCallI0, kItP, kItE, kSeq, kEnum, kForB, kComp1, kComp, kDeal2, kDeal1, kDeal0, List.getElem?_cons_succ, List.getElem?_cons_zero, List.set_cons_zero, List.set_cons_succ, List.length_nil, List.length_cons, Bool.false_and, Bool.and_false, Bool.true_and, Bool.and_true, Bool.not_true, Bool.not_false, Bool.false_eq_true, if_true, if_false, reduceIte, Option.map_some, Option.map_none, Option.bind_some, Option.bind_none, D.seals, D.isB, l1, l2, frz, frzA, oAppend, oPop, oPopAt, oExtend, mTup, mLst, Nat.zero_le, argsVL, ioC, seqOf, okSeq, unlS, unlock, unlO, unlI, derefB, D.truth]) []
  unfold cellsE
  rw [e_sComp, hi, e_bok]
  unfold kComp
  rw [if_pos ⟨rfl, by show (List.map D.int _).length < _; rw [List.length_map]; unfold sizeLine; omega⟩]
  show kComp1 _ _ _ (loopC [3] (J.stN 3) cYes (sOp (l1 dAbs) [.e (sOp (l1 dInt) [.p 3])]) ((J.cutD ns (some 0) (some 60)).map D.int) [.lent (.scr ns), .lent (.int 0), .no, .no, .no, .no] []) = _
  rw [hL, List.nil_append, List.map_map]
  unfold cells
  rw [List.map_map]
  rfl
def srcBody (p q r : Int) : SS := bSet 4 (sOp (l2 dMod) [.e (sOp (l1 dInt) [.e (sOp (l2 dAdd) [.e (sOp (l2 dMul) [.e (sOp (l2 dAdd) [.e (sOp (l2 dAdd) [.p 4, .p 5]), .e (sC (.int 1))]), .e (sC (.int p))]), .e (sOp (l2 dMod) [.e (sOp (l1 dInt) [.p 3]), .e (sC (.int q))])])]), .e (sC (.int r))])
theorem srcBody_ok {p q r s k c : Int} {a b d : D} (hm : dMul (.int (s + k + 1)) (.int p) = some (false, .int ((s + k + 1) * p))) (hq : dMod (.int c) (.int q) = some (false, .int (c % q))) (hr : ∀ x, dMod (.int x) (.int r) = some (false, .int (x % r))) :
    srcBody p q r [.lent a, .lent b, .lown d, .val (.int c), .val (.int s), .val (.int k)] = .nx [.lent a, .lent b, .lown d, .val (.int c), .val (.int (((s + k + 1) * p + c % q) % r)), .val (.int k)] := by
  have h1 : ∀ x y : Int, dAdd (.int x) (.int y) = some (false, .int (x + y)) := fun _ _ => rfl
  have h2 : ∀ x : Int, dInt (.int x) = some (false, .int x) := fun _ => rfl
  unfold srcBody
  simp only [h1, h2, hm, hq, hr, e_bok, e_bexc, e_bno, e_tok, e_texc, e_tno, e_snx, e_srt, e_sbk, e_sct, e_sexc, e_sno, e_getP, e_evE, e_evP, e_evN, e_evC, e_derN, e_derC, e_derBC, e_der, e_derP, e_sArgs, e_sOp, e_sDisp, e_sVar, e_mvVar, e_sC, e_cVal, e_cAnd, e_cOr, e_cNot, e_cTru, e_sAnd, e_sOr, e_sNot, e_sIf, e_bNil, e_bCons, e_bIf, e_bSet, e_bExpr, e_bRet, e_bRetN, e_bPass, e_stS, e_mutS, e_sMut, e_bPar, e_sCallV, e_sCallI, e_itP, e_itAP, e_itAE, e_itSeq, e_itEnum, e_itRng1, e_itRng2, e_oNo, e_oVal, e_oOwn, e_oIo, e_bFor, e_sComp, e_sDeal, e_cYes, kGet, kOpt, kLis, kE, kP, kAs1, kAs, kDer, kOp, kDisp, kVar, kMv, kVal, kAndT, kOrT, kNotT, kTru, kAndE, kOrE, kNotE, kIfE, kIfS, kNx, kSetS, kExp, kSt, kMut, kMut3, kMut2, kMut1, kMutA, kMut0, kPar2, kPar1, kPar0, kFn, kFnO, kCall, kIo, kIoO, kCallI, kCallI0, kItP, kItE, kSeq, kEnum, kForB, kComp1, kComp, kDeal2, kDeal1, kDeal0, List.getElem?_cons_succ, List.getElem?_cons_zero, List.set_cons_zero, List.set_cons_succ, List.length_nil, List.length_cons, Bool.false_and, Bool.and_false, Bool.true_and, Bool.and_true, Bool.not_true, Bool.not_false, Bool.false_eq_true, if_true, if_false, reduceIte, Option.map_some, Option.map_none, Option.bind_some, Option.bind_none, D.seals, D.isB, l1, l2, frz, frzA, oAppend, oPop, oPopAt, oExtend, mTup, mLst, Nat.zero_le, argsVL, ioC, seqOf, okSeq, unlS, unlock, unlO, unlI, derefB, D.truth]
theorem stir_mul2 {x : Int} (h0 : 0 ≤ x) (h : x < 2 ^ 32) : dMul (.int x) (.int 69621) = some (false, .int (x * 69621)) := by
  have h1 := bits_le (n := 32) h0 h
  have h2 : Builtin.Int.intBits 69621 ≤ 17 := bits_le (by omega) (by omega)
  exact dII_ok (decide_eq_true (by omega))
theorem mod_q (c : Int) : dMod (.int c) (.int 2147483563) = some (false, .int (c % 2147483563)) := mod_ok (by omega)
def srcT : TgS := stT (stCons (J.stN 5) (stCons (J.stN 3) stNil))
def Pl (t : J.Slot) : Prop := t = .no ∨ ∃ d, t = .val d
theorem Pl.open {t : J.Slot} (h : Pl t) : t.open = true := by
  rcases h with rfl | ⟨d, rfl⟩ <;> rfl
theorem srcLoop {a b d : D} : ∀ (cs : List Int) (i : Nat) (s : Int) (t u : Slot), i + cs.length < 1000 → 0 ≤ s → s < 2147483647 → Pl t → Pl u →
    ∃ s' t' u', loopF srcT (srcBody 69621 2147483563 2147483647) (enumD i (cs.map D.int)) [.lent a, .lent b, .lown d, t, .val (.int s), u] = .nx [.lent a, .lent b, .lown d, t', .val (.int s'), u'] ∧ 0 ≤ s' ∧ s' < 2147483647 ∧ Pl t' ∧ Pl u'
  | [], i, s, t, u, _, h0, h1, ht, hu => ⟨s, t, u, rfl, h0, h1, ht, hu⟩
  | c :: r, i, s, t, u, hi, h0, h1, ht, hu => by
    have hi : i + (r.length + 1) < 1000 := hi
    have st : srcT (.tup [.int (i : Nat), .int c]) [.lent a, .lent b, .lown d, t, .val (.int s), u] = some [.lent a, .lent b, .lown d, .val (.int c), .val (.int s), .val (.int (i : Nat))] := by
      show (J.stN 5 (.int (i : Nat)) [.lent a, .lent b, .lown d, t, .val (.int s), u]).bind (fun ρ' => stCons (J.stN 3) stNil [.int c] ρ') = _
      have e1 : J.stN 5 (.int (i : Nat)) [.lent a, .lent b, .lown d, t, .val (.int s), u] = some [.lent a, .lent b, .lown d, t, .val (.int s), .val (.int (i : Nat))] := by
        simp only [J.stN, hu.open, e_bok, e_bexc, e_bno, e_tok, e_texc, e_tno, e_snx, e_srt, e_sbk, e_sct, e_sexc, e_sno, e_getP, e_evE, e_evP, e_evN, e_evC, e_derN, e_derC, e_derBC, e_der, e_derP, e_sArgs, e_sOp, e_sDisp, e_sVar, e_mvVar, e_sC, e_cVal, e_cAnd, e_cOr, e_cNot, e_cTru, e_sAnd, e_sOr, e_sNot, e_sIf, e_bNil, e_bCons, e_bIf, e_bSet, e_bExpr, e_bRet, e_bRetN, e_bPass, e_stS, e_mutS, e_sMut, e_bPar, e_sCallV, e_sCallI, e_itP, e_itAP, e_itAE, e_itSeq, e_itEnum, e_itRng1, e_itRng2, e_oNo, e_oVal, e_oOwn, e_oIo, e_bFor, e_sComp, e_sDeal, e_cYes, kGet, kOpt, kLis, kE, kP, kAs1, kAs, kDer, kOp, kDisp, kVar, kMv, kVal, kAndT, kOrT, kNotT, kTru, kAndE, kOrE, kNotE, kIfE, kIfS, kNx, kSetS, kExp, kSt, kMut, kMut3, kMut2, kMut1, kMutA, kMut0, kPar2, kPar1, kPar0, kFn, kFnO, kCall, kIo, kIoO, kCallI, kCallI0, kItP, kItE, kSeq, kEnum, kForB, kComp1, kComp, kDeal2, kDeal1, kDeal0, List.getElem?_cons_succ, List.getElem?_cons_zero, List.set_cons_zero, List.set_cons_succ, List.length_nil, List.length_cons, Bool.false_and, Bool.and_false, Bool.true_and, Bool.and_true, Bool.not_true, Bool.not_false, Bool.false_eq_true, if_true, if_false, reduceIte, Option.map_some, Option.map_none, Option.bind_some, Option.bind_none, D.seals, D.isB, l1, l2, frz, frzA, oAppend, oPop, oPopAt, oExtend, mTup, mLst, Nat.zero_le, argsVL, ioC, seqOf, okSeq, unlS, unlock, unlO, unlI, derefB, D.truth]
      have e2 : J.stN 3 (.int c) [.lent a, .lent b, .lown d, t, .val (.int s), .val (.int (i : Nat))] = some [.lent a, .lent b, .lown d, .val (.int c), .val (.int s), .val (.int (i : Nat))] := by
        simp only [J.stN, ht.open, e_bok, e_bexc, e_bno, e_tok, e_texc, e_tno, e_snx, e_srt, e_sbk, e_sct, e_sexc, e_sno, e_getP, e_evE, e_evP, e_evN, e_evC, e_derN, e_derC, e_derBC, e_der, e_derP, e_sArgs, e_sOp, e_sDisp, e_sVar, e_mvVar, e_sC, e_cVal, e_cAnd, e_cOr, e_cNot, e_cTru, e_sAnd, e_sOr, e_sNot, e_sIf, e_bNil, e_bCons, e_bIf, e_bSet, e_bExpr, e_bRet, e_bRetN, e_bPass, e_stS, e_mutS, e_sMut, e_bPar, e_sCallV, e_sCallI, e_itP, e_itAP, e_itAE, e_itSeq, e_itEnum, e_itRng1, e_itRng2, e_oNo, e_oVal, e_oOwn, e_oIo, e_bFor, e_sComp, e_sDeal, e_cYes, kGet, kOpt, kLis, kE, kP, kAs1, kAs, kDer, kOp, kDisp, kVar, kMv, kVal, kAndT, kOrT, kNotT, kTru, kAndE, kOrE, kNotE, kIfE, kIfS, kNx, kSetS, kExp, kSt, kMut, kMut3, kMut2, kMut1, kMutA, kMut0, kPar2, kPar1, kPar0, kFn, kFnO, kCall, kIo, kIoO, kCallI, kCallI0, kItP, kItE, kSeq, kEnum, kForB, kComp1, kComp, kDeal2, kDeal1, kDeal0, List.getElem?_cons_succ, List.getElem?_cons_zero, List.set_cons_zero, List.set_cons_succ, List.length_nil, List.length_cons, Bool.false_and, Bool.and_false, Bool.true_and, Bool.and_true, Bool.not_true, Bool.not_false, Bool.false_eq_true, if_true, if_false, reduceIte, Option.map_some, Option.map_none, Option.bind_some, Option.bind_none, D.seals, D.isB, l1, l2, frz, frzA, oAppend, oPop, oPopAt, oExtend, mTup, mLst, Nat.zero_le, argsVL, ioC, seqOf, okSeq, unlS, unlock, unlO, unlI, derefB, D.truth]
      rw [e1, Option.bind_some]
      show (J.stN 3 (.int c) [.lent a, .lent b, .lown d, t, .val (.int s), .val (.int (i : Nat))]).bind (fun ρ' => stNil [] ρ') = _
      rw [e2]
      rfl
    have hb := srcBody_ok (p := 69621) (q := 2147483563) (r := 2147483647) (s := s) (k := (i : Nat)) (c := c) (a := a) (b := b) (d := d) (stir_mul2 (by omega) (by omega)) (mod_q c) mod_b
    show ∃ s' t' u', loopF srcT (srcBody 69621 2147483563 2147483647) (.tup [.int (i : Nat), .int c] :: enumD (i + 1) (r.map D.int)) [.lent a, .lent b, .lown d, t, .val (.int s), u] = _ ∧ _
    rw [loopF_cons st hb]
    exact srcLoop r (i + 1) _ _ _ (by omega) (Int.emod_nonneg _ (by omega)) (Int.emod_lt_of_pos _ (by omega)) (.inr ⟨_, rfl⟩) (.inr ⟨_, rfl⟩)
theorem loopC_filter {own : List Nat} {st : TgS} {c : ST} {el : SE} {ρ : J.Env} {f : D → D} {g : D → Bool} : ∀ (ds : List D), (∀ d ∈ ds, ∃ ρ1, st d ρ = some ρ1 ∧ c ρ1 = .ok (g d) ρ1 ∧ evArg (.e el) ρ1 = .ok (.d (f d)) ρ1 ∧ blankC ρ1 own = some ρ) → ∀ acc, loopC own st c el ds ρ acc = some (acc ++ (ds.filter g).map f, ρ)
  | [], _, acc => by simp [loopC]
  | d :: r, h, acc => by
    obtain ⟨ρ1, h1, h2, h3, h4⟩ := h d List.mem_cons_self
    have ih := loopC_filter r (fun x hx => h x (List.mem_cons_of_mem _ hx))
    by_cases z : g d = true
    · rw [z] at h2
      rw [loopC_yes h1 h2 h3 h4, ih, List.filter_cons_of_pos z]
      simp
    · rw [Bool.not_eq_true] at z
      rw [z] at h2
      rw [loopC_no h1 h2 h4, ih, List.filter_cons_of_neg (by rw [z]; decide)]
def big : Int := 10 ^ (18 : Int).toNat
def geB : D → Bool
  | .int c => decide (big ≤ c)
  | _ => false
def greatE : SE := sComp (itSeq (.p 2)) [3] (J.stN 3) (cVal (sOp (l2 dGe) [.p 3, .e (sOp (l2 dPow) [.e (sC (.int 10)), .e (sC (.int 18))])])) (sVar 3)
theorem great_ok {a b : D} {cs : List Int} {t v u : J.Slot} (h : cs.length < 64) (ht : Pl t) : greatE [.lent a, .lent b, .own (.lst (cs.map D.int)), t, v, u] = .ok (true, .lst ((cs.filter fun c => decide (big ≤ c)).map D.int)) [.lent a, .lent b, .own (.lst (cs.map D.int)), t, v, u] := by
  have hp : dPow (.int 10) (.int 18) = some (false, .int big) := by
    have e := dII_ok (C := fun i j => decide (0 ≤ j ∧ j ≤ 1000000 ∧ i.natAbs < 2 ^ 64)) (f := fun i j => D.int (i ^ j.toNat)) (i := 10) (j := 18) (by decide)
    exact e
  have hg : ∀ c : Int, dGe (.int c) (.int big) = some (false, .bl (decide (big ≤ c))) := fun _ => rfl
  have hi : itSeq (.p 2) [.lent a, .lent b, .own (.lst (cs.map D.int)), t, v, u] = .ok (cs.map D.int, .own 2) [.lent a, .lent b, .lown (.lst (cs.map D.int)), t, v, u] := rfl
  have hL := loopC_filter (own := [3]) (st := J.stN 3) (c := cVal (sOp (l2 dGe) [.p 3, .e (sOp (l2 dPow) [.e (sC (.int 10)), .e (sC (.int 18))])])) (el := sVar 3) (ρ := [.lent a, .lent b, .lown (.lst (cs.map D.int)), .no, v, u]) (f := id) (g := geB) (cs.map D.int) (fun d hd => by
    obtain ⟨c, _, rfl⟩ := List.mem_map.mp hd
    refine ⟨[.lent a, .lent b, .lown (.lst (cs.map D.int)), .val (.int c), v, u], rfl, ?_, rfl, rfl⟩
    have e : geB (.int c) = decide (big ≤ c) := rfl
    simp only [hp, hg, e, e_bok, e_bexc, e_bno, e_tok, e_texc, e_tno, e_snx, e_srt, e_sbk, e_sct, e_sexc, e_sno, e_getP, e_evE, e_evP, e_evN, e_evC, e_derN, e_derC, e_derBC, e_der, e_derP, e_sArgs, e_sOp, e_sDisp, e_sVar, e_mvVar, e_sC, e_cVal, e_cAnd, e_cOr, e_cNot, e_cTru, e_sAnd, e_sOr, e_sNot, e_sIf, e_bNil, e_bCons, e_bIf, e_bSet, e_bExpr, e_bRet, e_bRetN, e_bPass, e_stS, e_mutS, e_sMut, e_bPar, e_sCallV, e_sCallI, e_itP, e_itAP, e_itAE, e_itSeq, e_itEnum, e_itRng1, e_itRng2, e_oNo, e_oVal, e_oOwn, e_oIo, e_bFor, e_sComp, e_sDeal, e_cYes, kGet, kOpt, kLis, kE, kP, kAs1, kAs, kDer, kOp, kDisp, kVar, kMv, kVal, kAndT, kOrT, kNotT, kTru, kAndE, kOrE, kNotE, kIfE, kIfS, kNx, kSetS, kExp, kSt, kMut, kMut3, kMut2, kMut1, kMutA, kMut0, kPar2, kPar1, kPar0, kFn, kFnO, kCall, kIo, kIoO, kCallI, kCallI0, kItP, kItE, kSeq, kEnum, kForB, kComp1, kComp, kDeal2, kDeal1, kDeal0, List.getElem?_cons_succ, List.getElem?_cons_zero, List.set_cons_zero, List.set_cons_succ, List.length_nil, List.length_cons, Bool.false_and, Bool.and_false, Bool.true_and, Bool.and_true, Bool.not_true, Bool.not_false, Bool.false_eq_true, if_true, if_false, reduceIte, Option.map_some, Option.map_none, Option.bind_some, Option.bind_none, D.seals, D.isB, l1, l2, frz, frzA, oAppend, oPop, oPopAt, oExtend, mTup, mLst, Nat.zero_le, argsVL, ioC, seqOf, okSeq, unlS, unlock, unlO, unlI, derefB, D.truth]) []
  have hf : ((cs.map D.int).filter geB).map id = (cs.filter fun c => decide (big ≤ c)).map D.int := by
    rw [List.map_id, List.filter_map]
    rfl
  unfold greatE
  rw [e_sComp, hi, e_bok]
  unfold kComp
  have hpl : plains [.lent a, .lent b, .lown (.lst (cs.map D.int)), t, v, u] [3] = true := by
    rcases ht with rfl | ⟨d, rfl⟩ <;> rfl
  rw [if_pos ⟨hpl, by show (List.map D.int cs).length < _; rw [List.length_map]; unfold sizeLine; omega⟩]
  show kComp1 _ _ _ (loopC [3] (J.stN 3) _ (sVar 3) (cs.map D.int) [.lent a, .lent b, .lown (.lst (cs.map D.int)), .no, v, u] []) = _
  rw [hL, List.nil_append, hf]
  rcases ht with rfl | ⟨d, rfl⟩ <;> rfl
theorem src2 {p q : Int} {a c : D} (hm : dMul (.int q) (.int 0) = some (false, .int (q * 0))) : bSet 4 (sOp (l2 dAdd) [.e (sC (.int p)), .e (sOp (l2 dMul) [.e (sC (.int q)), .p 1])]) [.lent a, .lent (.int 0), .own c, .no, .no, .no] = .nx [.lent a, .lent (.int 0), .own c, .no, .val (.int (p + q * 0)), .no] := by
  have h1 : ∀ x y : Int, dAdd (.int x) (.int y) = some (false, .int (x + y)) := fun _ _ => rfl
  simp only [h1, hm, e_bok, e_bexc, e_bno, e_tok, e_texc, e_tno, e_snx, e_srt, e_sbk, e_sct, e_sexc, e_sno, e_getP, e_evE, e_evP, e_evN, e_evC, e_derN, e_derC, e_derBC, e_der, e_derP, e_sArgs, e_sOp, e_sDisp, e_sVar, e_mvVar, e_sC, e_cVal, e_cAnd, e_cOr, e_cNot, e_cTru, e_sAnd, e_sOr, e_sNot, e_sIf, e_bNil, e_bCons, e_bIf, e_bSet, e_bExpr, e_bRet, e_bRetN, e_bPass, e_stS, e_mutS, e_sMut, e_bPar, e_sCallV, e_sCallI, e_itP, e_itAP, e_itAE, e_itSeq, e_itEnum, e_itRng1, e_itRng2, e_oNo, e_oVal, e_oOwn, e_oIo, e_bFor, e_sComp, e_sDeal, e_cYes, kGet, kOpt, kLis, kE, kP, kAs1, kAs, kDer, kOp, kDisp, kVar, kMv, kVal, kAndT, kOrT, kNotT, kTru, kAndE, kOrE, kNotE, kIfE, kIfS, kNx, kSetS, kExp, kSt, kMut, kMut3, kMut2, kMut1, kMutA, kMut0, kPar2, kPar1, kPar0, kFn, kFnO, kCall, kIo, kIoO, kCallI, kCallI0, kItP, kItE, kSeq, kEnum, kForB, kComp1, kComp, kDeal2, kDeal1, kDeal0, List.getElem?_cons_succ, List.getElem?_cons_zero, List.set_cons_zero, List.set_cons_succ, List.length_nil, List.length_cons, Bool.false_and, Bool.and_false, Bool.true_and, Bool.and_true, Bool.not_true, Bool.not_false, Bool.false_eq_true, if_true, if_false, reduceIte, Option.map_some, Option.map_none, Option.bind_some, Option.bind_none, D.seals, D.isB, l1, l2, frz, frzA, oAppend, oPop, oPopAt, oExtend, mTup, mLst, Nat.zero_le, argsVL, ioC, seqOf, okSeq, unlS, unlock, unlO, unlI, derefB, D.truth]
theorem mul_29 : dMul (.int 29) (.int 0) = some (false, .int (29 * 0)) := by
  have h1 : Builtin.Int.intBits 29 ≤ 5 := bits_le (by omega) (by omega)
  have h2 : Builtin.Int.intBits 0 ≤ 1 := bits_le (by omega) (by omega)
  exact dII_ok (decide_eq_true (by omega))
theorem src4 {a b : D} {cs : List Int} {t u : J.Slot} {s : Int} (h : cs.length < 64) (ht : Pl t) : bRet (sDeal (sOp (l1 dRev) [.e greatE]) (sVar 4)) [.lent a, .lent b, .own (.lst (cs.map D.int)), t, .val (.int s), u] = .rt (true, .deal ((cs.filter fun c => decide (big ≤ c)).reverse) s) [.lent a, .lent b, .own (.lst (cs.map D.int)), t, .val (.int s), u] := by
  have hg := great_ok (a := a) (b := b) (cs := cs) (v := .val (.int s)) (u := u) h ht
  have hr : ∀ l : List Int, dRev (.lst (l.map D.int)) = some (true, .lst (l.reverse.map D.int)) := fun l => by
    show some (true, D.lst (l.map D.int).reverse) = _
    rw [List.map_reverse]
  simp only [hg, hr, J.ints_map, e_bok, e_bexc, e_bno, e_tok, e_texc, e_tno, e_snx, e_srt, e_sbk, e_sct, e_sexc, e_sno, e_getP, e_evE, e_evP, e_evN, e_evC, e_derN, e_derC, e_derBC, e_der, e_derP, e_sArgs, e_sOp, e_sDisp, e_sVar, e_mvVar, e_sC, e_cVal, e_cAnd, e_cOr, e_cNot, e_cTru, e_sAnd, e_sOr, e_sNot, e_sIf, e_bNil, e_bCons, e_bIf, e_bSet, e_bExpr, e_bRet, e_bRetN, e_bPass, e_stS, e_mutS, e_sMut, e_bPar, e_sCallV, e_sCallI, e_itP, e_itAP, e_itAE, e_itSeq, e_itEnum, e_itRng1, e_itRng2, e_oNo, e_oVal, e_oOwn, e_oIo, e_bFor, e_sComp, e_sDeal, e_cYes, kGet, kOpt, kLis, kE, kP, kAs1, kAs, kDer, kOp, kDisp, kVar, kMv, kVal, kAndT, kOrT, kNotT, kTru, kAndE, kOrE, kNotE, kIfE, kIfS, kNx, kSetS, kExp, kSt, kMut, kMut3, kMut2, kMut1, kMutA, kMut0, kPar2, kPar1, kPar0, kFn, kFnO, kCall, kIo, kIoO, kCallI, kCallI0, kItP, kItE, kSeq, kEnum, kForB, kComp1, kComp, kDeal2, kDeal1, kDeal0, List.getElem?_cons_succ, List.getElem?_cons_zero, List.set_cons_zero, List.set_cons_succ, List.length_nil, List.length_cons, Bool.false_and, Bool.and_false, Bool.true_and, Bool.and_true, Bool.not_true, Bool.not_false, Bool.false_eq_true, if_true, if_false, reduceIte, Option.map_some, Option.map_none, Option.bind_some, Option.bind_none, D.seals, D.isB, l1, l2, frz, frzA, oAppend, oPop, oPopAt, oExtend, mTup, mLst, Nat.zero_le, argsVL, ioC, seqOf, okSeq, unlS, unlock, unlO, unlI, derefB, D.truth]
theorem source_ok {ns : List Int} (h : ns.length < 64) : ∃ gs s, M__law_source [.scr ns, .int 0] = .ok (true, .deal gs s) .non ∧ GD gs s := by
  have hl : (cells ns).length < 64 := by
    have := cut_len ns (some 0) (some 60)
    unfold cells
    rw [List.length_map]; omega
  have hc := cells_ok h
  have s1 : bSet 2 cellsE [.lent (.scr ns), .lent (.int 0), .no, .no, .no, .no] = .nx [.lent (.scr ns), .lent (.int 0), .own (.lst ((cells ns).map D.int)), .no, .no, .no] := by
    simp only [hc, e_bok, e_bexc, e_bno, e_tok, e_texc, e_tno, e_snx, e_srt, e_sbk, e_sct, e_sexc, e_sno, e_getP, e_evE, e_evP, e_evN, e_evC, e_derN, e_derC, e_derBC, e_der, e_derP, e_sArgs, e_sOp, e_sDisp, e_sVar, e_mvVar, e_sC, e_cVal, e_cAnd, e_cOr, e_cNot, e_cTru, e_sAnd, e_sOr, e_sNot, e_sIf, e_bNil, e_bCons, e_bIf, e_bSet, e_bExpr, e_bRet, e_bRetN, e_bPass, e_stS, e_mutS, e_sMut, e_bPar, e_sCallV, e_sCallI, e_itP, e_itAP, e_itAE, e_itSeq, e_itEnum, e_itRng1, e_itRng2, e_oNo, e_oVal, e_oOwn, e_oIo, e_bFor, e_sComp, e_sDeal, e_cYes, kGet, kOpt, kLis, kE, kP, kAs1, kAs, kDer, kOp, kDisp, kVar, kMv, kVal, kAndT, kOrT, kNotT, kTru, kAndE, kOrE, kNotE, kIfE, kIfS, kNx, kSetS, kExp, kSt, kMut, kMut3, kMut2, kMut1, kMutA, kMut0, kPar2, kPar1, kPar0, kFn, kFnO, kCall, kIo, kIoO, kCallI, kCallI0, kItP, kItE, kSeq, kEnum, kForB, kComp1, kComp, kDeal2, kDeal1, kDeal0, List.getElem?_cons_succ, List.getElem?_cons_zero, List.set_cons_zero, List.set_cons_succ, List.length_nil, List.length_cons, Bool.false_and, Bool.and_false, Bool.true_and, Bool.and_true, Bool.not_true, Bool.not_false, Bool.false_eq_true, if_true, if_false, reduceIte, Option.map_some, Option.map_none, Option.bind_some, Option.bind_none, D.seals, D.isB, l1, l2, frz, frzA, oAppend, oPop, oPopAt, oExtend, mTup, mLst, Nat.zero_le, argsVL, ioC, seqOf, okSeq, unlS, unlock, unlO, unlI, derefB, D.truth]
  have s2 := src2 (p := 62089911) (q := 29) (a := .scr ns) (c := .lst ((cells ns).map D.int)) mul_29
  obtain ⟨s', t', u', e, h0, h1, ht, hu⟩ := srcLoop (a := .scr ns) (b := .int 0) (d := .lst ((cells ns).map D.int)) (cells ns) 0 (62089911 + 29 * 0) .no .no (by omega) (by omega) (by omega) (.inl rfl) (.inl rfl)
  have s3 : bFor (itEnum (.p 2)) srcT (srcBody 69621 2147483563 2147483647) [.lent (.scr ns), .lent (.int 0), .own (.lst ((cells ns).map D.int)), .no, .val (.int (62089911 + 29 * 0)), .no] = .nx [.lent (.scr ns), .lent (.int 0), .own (.lst ((cells ns).map D.int)), t', .val (.int s'), u'] := by
    rw [e_bFor]
    show unlS (.own 2) (loopF srcT (srcBody 69621 2147483563 2147483647) (enumD 0 ((cells ns).map D.int)) [.lent (.scr ns), .lent (.int 0), .lown (.lst ((cells ns).map D.int)), .no, .val (.int (62089911 + 29 * 0)), .no]) = _
    rw [e]
    rfl
  refine ⟨((cells ns).filter fun c => decide (big ≤ c)).reverse, s', runV_rt (n := 4) (md := [true, true]) (f := m__law_source) (ρ := [.lent (.scr ns), .lent (.int 0), .own (.lst ((cells ns).map D.int)), t', .val (.int s'), u']) ?_, ?_, h0, h1⟩
  · show bCons (bSet 2 cellsE) (bCons (bSet 4 (sOp (l2 dAdd) [.e (sC (.int 62089911)), .e (sOp (l2 dMul) [.e (sC (.int 29)), .p 1])])) (bCons (bFor (itEnum (.p 2)) srcT (srcBody 69621 2147483563 2147483647)) (bRet (sDeal (sOp (l1 dRev) [.e greatE]) (sVar 4))))) [.lent (.scr ns), .lent (.int 0), .no, .no, .no, .no] = _
    rw [e_bCons, s1, e_snx, e_bCons, s2, e_snx, e_bCons, s3, e_snx]
    exact src4 hl ht
  · rw [List.length_reverse]
    exact Nat.lt_of_le_of_lt (List.length_filter_le _ _) hl


/-! ### good names: what they are as data -/
def okS (x : Str) : Bool := PyData.strOk x
def gw (x : Str) : Bool := okS x && okS (reprText x) && decide (x.cps.size ≤ 8)
theorem okS_app (x y : Str) : okS (x ++ y) = (okS x && okS y) := by
  show (x.cps ++ y.cps).all (fun c => decide (c < 0x110000)) = _
  rw [Array.all_append]; rfl
theorem gw_ok {x : Str} (h : gw x = true) : PyData.strOk x = true := by
  unfold gw at h
  rw [Bool.and_eq_true, Bool.and_eq_true] at h
  exact h.1.1
theorem gw_rep {x : Str} (h : gw x = true) : okS (reprText x) = true := by
  unfold gw at h
  rw [Bool.and_eq_true, Bool.and_eq_true] at h
  exact h.1.2
theorem gw_size {x : Str} (h : gw x = true) : x.cps.size ≤ 8 := by
  unfold gw at h
  rw [Bool.and_eq_true, Bool.and_eq_true] at h
  exact of_decide_eq_true h.2
def pk (k : List Str) : PyData := .tuple (k.map .str)
theorem pys_strs : ∀ k : List Str, D.pys (k.map D.str) = some (k.map PyData.str)
  | [] => by rw [List.map_nil, D.pys]; rfl
  | x :: r => by rw [List.map_cons, D.pys, pys_strs r, D.py]; rfl
theorem py_kD (k : List Str) : (kD k).py = some (pk k) := by
  unfold kD
  rw [D.py, pys_strs]; rfl
theorem pys_fD : ∀ f : List (List Str), D.pys (fD f) = some (f.map pk)
  | [] => by unfold fD; rw [List.map_nil, D.pys]; rfl
  | k :: r => by
    have ih := pys_fD r
    unfold fD at ih ⊢
    rw [List.map_cons, D.pys, ih, py_kD]; rfl
theorem py_lst (k : List Str) : (D.lst (k.map D.str)).py = some (.list (k.map .str)) := by rw [D.py, pys_strs]; rfl
theorem py_tup (f : List (List Str)) : (D.tup (fD f)).py = some (.tuple (f.map pk)) := by rw [D.py, pys_fD]; rfl
theorem lay_strs : ∀ {k : List Str}, (∀ x ∈ k, gw x = true) → PyData.canLayAll0 (k.map .str) = true
  | [], _ => by rw [List.map_nil, PyData.canLayAll0]
  | x :: r, h => by
    rw [List.map_cons, PyData.canLayAll0, lay_strs fun y hy => h y (List.mem_cons_of_mem _ hy), PyData.canLay0, gw_ok (h x List.mem_cons_self)]; rfl
theorem dep_strs : ∀ k : List Str, PyData.depthAll (k.map .str) = 0
  | [] => by rw [List.map_nil, PyData.depthAll]
  | x :: r => by rw [List.map_cons, PyData.depthAll, dep_strs r, PyData.depth]; rfl
theorem wei_strs : ∀ {k : List Str}, (∀ x ∈ k, gw x = true) → PyData.weightAll (k.map .str) ≤ k.length * 9
  | [], _ => by rw [List.map_nil, PyData.weightAll]; exact Nat.zero_le _
  | x :: r, h => by
    have ih := wei_strs (k := r) fun y hy => h y (List.mem_cons_of_mem _ hy)
    have := gw_size (h x List.mem_cons_self)
    rw [List.map_cons, PyData.weightAll, PyData.weight, List.length_cons]
    omega
theorem lay_f : ∀ {f : List (List Str)}, (∀ k ∈ f, ∀ x ∈ k, gw x = true) → PyData.canLayAll0 (f.map pk) = true
  | [], _ => by rw [List.map_nil, PyData.canLayAll0]
  | k :: r, h => by
    have e : PyData.canLay0 (pk k) = true := by
      unfold pk
      rw [PyData.canLay0]; exact lay_strs (h k List.mem_cons_self)
    rw [List.map_cons, PyData.canLayAll0, e, lay_f fun y hy => h y (List.mem_cons_of_mem _ hy)]; rfl
theorem dep_f : ∀ f : List (List Str), PyData.depthAll (f.map pk) ≤ 1
  | [] => by rw [List.map_nil, PyData.depthAll]; omega
  | k :: r => by
    have ih := dep_f r
    have e : PyData.depth (pk k) = 1 := by
      unfold pk
      rw [PyData.depth, dep_strs]
    rw [List.map_cons, PyData.depthAll, e]; omega
theorem wei_f {m : Nat} : ∀ {f : List (List Str)}, (∀ k ∈ f, k.length ≤ m) → (∀ k ∈ f, ∀ x ∈ k, gw x = true) → PyData.weightAll (f.map pk) ≤ f.length * (m * 9 + 1)
  | [], _, _ => by rw [List.map_nil, PyData.weightAll]; exact Nat.zero_le _
  | k :: r, hm, h => by
    have ih := wei_f (fun y hy => hm y (List.mem_cons_of_mem _ hy)) fun y hy => h y (List.mem_cons_of_mem _ hy)
    have e : PyData.weight (pk k) ≤ m * 9 := by
      unfold pk
      rw [PyData.weight]
      exact Nat.le_trans (wei_strs (h k List.mem_cons_self)) (Nat.mul_le_mul_right _ (hm k List.mem_cons_self))
    rw [List.map_cons, PyData.weightAll, List.length_cons, Nat.add_mul]
    omega
theorem int_f : ∀ f : List (List Str), PyData.intsShortAll 13 (f.map pk) = true
  | [] => by rw [List.map_nil, PyData.intsShortAll]
  | k :: r => by
    have e : PyData.intsShort 13 (pk k) = true := by
      unfold pk
      rw [PyData.intsShort]; exact PyData.intsShortAll_strs 13 k
    rw [List.map_cons, PyData.intsShortAll, e, int_f r]; rfl
theorem shw_strs : ∀ k : List Str, PyData.showableAll (k.map .str) = true
  | [] => by rw [List.map_nil, PyData.showableAll]
  | x :: r => by rw [List.map_cons, PyData.showableAll, shw_strs r, PyData.showable]; rfl
theorem shw_f : ∀ f : List (List Str), PyData.showableAll (f.map pk) = true
  | [] => by rw [List.map_nil, PyData.showableAll]
  | k :: r => by
    have e : PyData.showable (pk k) = true := by
      unfold pk
      rw [PyData.showable]; exact shw_strs k
    rw [List.map_cons, PyData.showableAll, e, shw_f r]; rfl
theorem okS_join : ∀ {l : List Str}, (∀ x ∈ l, okS x = true) → okS (Str.join ", " l) = true
  | [], _ => by decide +kernel
  | [x], h => h x List.mem_cons_self
  | x :: y :: r, h => by
    have ih := okS_join (l := y :: r) fun z hz => h z (List.mem_cons_of_mem _ hz)
    show okS (x ++ ", " ++ Str.join ", " (y :: r)) = true
    rw [okS_app, okS_app, ih, h x List.mem_cons_self, Bool.and_true, Bool.true_and]
    decide +kernel
theorem okS_tuple {l : List Str} (h : ∀ x ∈ l, okS x = true) : okS (tupleText l) = true := by
  unfold tupleText
  rw [okS_app, okS_app, okS_join h, Bool.and_true]
  split <;> decide +kernel
theorem okS_strs : ∀ {k : List Str}, (∀ x ∈ k, gw x = true) → ∀ t ∈ PyData.shownAll (k.map .str), okS t = true
  | [], _, t, ht => by rw [List.map_nil, PyData.shownAll] at ht; cases ht
  | x :: r, h, t, ht => by
    rw [List.map_cons, PyData.shownAll, PyData.shown] at ht
    rcases List.mem_cons.mp ht with rfl | ht
    · exact gw_rep (h x List.mem_cons_self)
    · exact okS_strs (fun y hy => h y (List.mem_cons_of_mem _ hy)) t ht
theorem okS_f : ∀ {f : List (List Str)}, (∀ k ∈ f, ∀ x ∈ k, gw x = true) → ∀ t ∈ PyData.shownAll (f.map pk), okS t = true
  | [], _, t, ht => by rw [List.map_nil, PyData.shownAll] at ht; cases ht
  | k :: r, h, t, ht => by
    rw [List.map_cons, PyData.shownAll] at ht
    rcases List.mem_cons.mp ht with rfl | ht
    · unfold pk
      rw [PyData.shown]
      exact okS_tuple (okS_strs (h k List.mem_cons_self))
    · exact okS_f (fun y hy => h y (List.mem_cons_of_mem _ hy)) t ht
section
variable {f : List (List Str)} (h : ∀ k ∈ f, ∀ x ∈ k, gw x = true)
include h
theorem lay_t : PyData.canLay0 (.tuple (f.map pk)) = true := by rw [PyData.canLay0]; exact lay_f h
theorem dep_t : PyData.depth (.tuple (f.map pk)) ≤ 2 := by rw [PyData.depth]; have := dep_f f; omega
theorem shaped_t : SeqAt.shaped (.tuple (f.map pk)) = true := by
  unfold SeqAt.shaped
  rw [lay_t h, Bool.true_and]
  have := dep_t h
  exact decide_eq_true (by omega)
theorem ne_f : dNe (.tup (fD f)) (.tup (fD f)) = some (false, .bl false) := by
  unfold dNe
  rw [py_tup]
  dsimp only
  rw [shaped_t h, SeqAt.eqv_refl _ (lay_t h)]; rfl
theorem rep_f (hf : f.length ≤ 32) (hk : ∀ k ∈ f, k.length ≤ 5) : ∃ t, dRepr (.tup (fD f)) = some (false, .str t) ∧ okS t = true := by
  have hw : PyData.weight (.tuple (f.map pk)) ≤ 2 ^ 20 := by
    rw [PyData.weight]
    have := wei_f hk h
    have h2 : f.length * (5 * 9 + 1) ≤ 32 * (5 * 9 + 1) := Nat.mul_le_mul_right _ hf
    omega
  have hl : PyData.layable0 (.tuple (f.map pk)) = true := by
    unfold PyData.layable0
    have := dep_t h
    rw [lay_t h, decide_eq_true hw, decide_eq_true (show PyData.depth (.tuple (f.map pk)) ≤ 64 by omega)]; rfl
  have hi : PyData.intsShort 13 (.tuple (f.map pk)) = true := by rw [PyData.intsShort]; exact int_f f
  have hs := PyData.shown_le_of_layable0 hl hi
  have hd : PyData.hasDict (.tuple (f.map pk)) = false := PyData.hasDict_of_canLay _ (lay_t h)
  have hsh : PyData.showable (.tuple (f.map pk)) = true := by rw [PyData.showable]; exact shw_f f
  have ok : showOk (.tuple (f.map pk)) = true := by
    unfold showOk
    have := dep_t h
    rw [hsh, hd, decide_eq_true (show PyData.depth (.tuple (f.map pk)) ≤ 60 by omega), decide_eq_true (show (PyData.shown (.tuple (f.map pk))).length ≤ sizeLine by unfold sizeLine; omega)]; rfl
  refine ⟨PyData.shown (.tuple (f.map pk)), ?_, ?_⟩
  · unfold dRepr
    rw [py_tup]
    dsimp only
    rw [if_pos ok]
  · rw [PyData.shown]
    exact okS_tuple (okS_f h)
end
theorem ne_str {t : Str} (h : okS t = true) : dNe (.str t) (.str t) = some (false, .bl false) := by
  unfold dNe
  rw [D.py]
  dsimp only
  have e : SeqAt.shaped (.str t) = true := by
    unfold SeqAt.shaped
    rw [PyData.canLay0, show PyData.strOk t = true from h, PyData.depth]; rfl
  rw [e, PyData.eqv]
  simp
theorem ne_lst {k : List Str} (h : ∀ x ∈ k, gw x = true) : dNe (.lst (k.map D.str)) (.lst (k.map D.str)) = some (false, .bl false) := by
  have hl : PyData.canLay0 (.list (k.map .str)) = true := by rw [PyData.canLay0]; exact lay_strs h
  have e : SeqAt.shaped (.list (k.map .str)) = true := by
    unfold SeqAt.shaped
    rw [hl, PyData.depth, dep_strs]; rfl
  unfold dNe
  rw [py_lst]
  dsimp only
  rw [e, SeqAt.eqv_refl _ hl]; rfl


/-! ### names -/
theorem cut_to {α : Type} (xs : List α) (n : Nat) : J.cutD xs none (some (n : Int)) = xs.take n := by
  unfold J.cutD
  rw [HT.sIx_none, HT.sIx_nat, List.drop_zero, Nat.sub_zero, List.take_eq_take_iff]
  omega
def unS : D → Str
  | .str x => x
  | _ => ""
theorem unS_map (xs : List Str) : (xs.map D.str).map unS = xs := by
  rw [List.map_map]
  exact List.map_id xs
theorem shuffled_strs {gs : List Int} {s : Int} {xs : List Str} (g : GD gs s) (h : xs.length < 64) : ∃ gs' s', ∃ ys : List Str, M__law_shuffled [.deal gs s, .lst (xs.map D.str)] = .ok (true, .lst (ys.map D.str)) (.deal gs' s') ∧ GD gs' s' ∧ ys.Perm xs := by
  obtain ⟨gs', s', f, e, g', p⟩ := shuffled_ok (ds := xs.map D.str) g (by rw [List.length_map]; exact h)
  have hf : f = (f.map unS).map D.str := by
    rw [List.map_map]
    conv => lhs; rw [← List.map_id f]
    refine List.map_congr_left fun d hd => ?_
    obtain ⟨x, _, rfl⟩ := List.mem_map.mp (p.mem_iff.mp hd)
    rfl
  refine ⟨gs', s', f.map unS, ?_, g', ?_⟩
  · rw [← hf]; exact e
  · have := p.map unS
    rw [unS_map] at this
    exact this
/-- what is known of the names of a turn -/
def goodB (xs : List Str) : Bool := xs.all gw && (sset xs).isPrefixOf (ssort xs) && decide (xs.length ≤ 5)
structure Good (xs : List Str) : Prop where
  gw : ∀ x ∈ xs, gw x = true
  pre : ∃ t, ssort xs = sset xs ++ t
  few : xs.length ≤ 5
theorem Good.of {xs : List Str} (h : goodB xs = true) : Good xs := by
  unfold goodB at h
  rw [Bool.and_eq_true, Bool.and_eq_true] at h
  refine ⟨List.all_eq_true.mp h.1.1, ?_, of_decide_eq_true h.2⟩
  obtain ⟨t, ht⟩ := List.isPrefixOf_iff_prefix.mp h.1.2
  exact ⟨t, ht.symm⟩
theorem ssort_perm_eq {xs ys : List Str} (p : xs.Perm ys) : ssort xs = ssort ys := perm_pw_eq ((ssort_perm xs).trans (p.trans (ssort_perm ys).symm)) (ssort_pw xs) (ssort_pw ys)
theorem sset_mem_eq {xs ys : List Str} (h : ∀ x, x ∈ xs ↔ x ∈ ys) : sset xs = sset ys :=
  perm_pw_eq ((List.perm_ext_iff_of_nodup (pw_nodup (sset_pw xs)) (pw_nodup (sset_pw ys))).mpr fun x => sset_mem.trans ((h x).trans sset_mem.symm)) (pw_le (sset_pw xs)) (pw_le (sset_pw ys))
theorem Good.perm {xs ys : List Str} (p : xs.Perm ys) (h : Good ys) : Good xs := by
  refine ⟨fun x hx => h.gw x (p.mem_iff.mp hx), ?_, by rw [p.length_eq]; exact h.few⟩
  rw [ssort_perm_eq p, sset_mem_eq fun x => p.mem_iff]
  exact h.pre
theorem ssort_nodup {xs : List Str} (h : xs.Nodup) : ssort xs = sset xs :=
  perm_pw_eq ((ssort_perm xs).trans ((List.perm_ext_iff_of_nodup h (pw_nodup (sset_pw xs))).mpr fun x => sset_mem.symm)) (ssort_pw xs) (pw_le (sset_pw xs))
theorem Good.nodup {xs : List Str} (h : xs.Nodup) (hg : ∀ x ∈ xs, K02.gw x = true) (few : xs.length ≤ 5) : Good xs := ⟨hg, ⟨[], by rw [ssort_nodup h, List.append_nil]⟩, few⟩
def ten : List Str := ["more", "even", "is", "do", "know", "let", "w", "sure", "undo", "row"]
theorem ten_nd : ten.Nodup := by decide +kernel
theorem ten_gw : ∀ x ∈ ten, gw x = true := by
  have h : ten.all gw = true := by decide +kernel
  exact List.all_eq_true.mp h
theorem Good.ten {ys : List Str} (p : ys.Perm K02.ten) (m : Nat) (h : m ≤ 5) : Good (ys.take m) := by
  refine .nodup ((p.nodup_iff.mpr ten_nd).sublist (List.take_sublist m ys)) (fun x hx => ten_gw x (p.mem_iff.mp (List.mem_of_mem_take hx))) ?_
  rw [List.length_take]; omega
def zcut (k : Int) : Str := cutS "zzzz" none (some (k + 1))
def zs (m : Nat) : List Str := (List.range m).map fun (k : Nat) => zcut (0 + (k : Int))
theorem zs_good : ∀ m < 6, Good (zs m) := by
  have h : ∀ m < 6, goodB (zs m) = true := by decide +kernel
  exact fun m hm => .of (h m hm)
def abc : Str := "abcdefghijklmnopqrstuvwxyz"
def letter (spot k : Int) : Str := ((atI abc.cps.toList ((spot + 11 * k) % 26)).map fun c => (⟨#[c]⟩ : Str)).getD ""
def nm (spot k : Int) : Str := letter spot k ++ cutS "wq" none (some (spot % 3))
def ns3 (spot m : Nat) : List Str := (List.range m).map fun (k : Nat) => nm spot (0 + (k : Int))
theorem ns3_good : ∀ s < 26, ∀ m < 6, Good (ns3 s m) := by
  have h : ∀ s < 26, ∀ m < 6, goodB (ns3 s m) = true := by decide +kernel
  exact fun s hs m hm => .of (h s hs m hm)


theorem nmD {gs : List Int} {s m : Int} {r : Int} {gs' : List Int} {s' : Int} (e : drawM [.deal gs s, .int m] = .ok (false, .int r) (.deal gs' s')) : M__law_draw [.deal gs s, .int m] = .ok (false, .int r) (.deal gs' s') := e
def n1 : SS := bSet 2 (sDisp mLst [.e (sC (.str "more")), .e (sC (.str "even")), .e (sC (.str "is")), .e (sC (.str "do")), .e (sC (.str "know")), .e (sC (.str "let")), .e (sC (.str "w")), .e (sC (.str "sure")), .e (sC (.str "undo")), .e (sC (.str "row"))])
def n2 : SS := bAsg (stT (stCons (J.stN 3) (stCons (J.stN 4) stNil))) (sDisp mTup [.e (sCallI [false] (M__law_draw) 0 [.e (sC (.int 3))]), .e (sCallI [false] (M__law_draw) 0 [.e (sC (.int 26))])])
theorem n1_ok {dl : D} {m : D} : n1 [.io dl, .lent m, .no, .no, .no, .no, .no] = .nx [.io dl, .lent m, .own (.lst (ten.map D.str)), .no, .no, .no, .no] := by
  have hz : 0 + 1 + 1 + 1 + 1 + 1 + 1 + 1 + 1 + 1 + 1 ≤ sizeLine := by show 10 ≤ 16777216; omega
  unfold n1 ten
  simp only [hz, List.map_cons, List.map_nil, e_bok, e_bexc, e_bno, e_tok, e_texc, e_tno, e_snx, e_srt, e_sbk, e_sct, e_sexc, e_sno, e_getP, e_evE, e_evP, e_evN, e_evC, e_derN, e_derC, e_derBC, e_der, e_derP, e_sArgs, e_sOp, e_sDisp, e_sVar, e_mvVar, e_sC, e_cVal, e_cAnd, e_cOr, e_cNot, e_cTru, e_sAnd, e_sOr, e_sNot, e_sIf, e_bNil, e_bCons, e_bIf, e_bSet, e_bExpr, e_bRet, e_bRetN, e_bPass, e_stS, e_mutS, e_sMut, e_bPar, e_sCallV, e_sCallI, e_itP, e_itAP, e_itAE, e_itSeq, e_itEnum, e_itRng1, e_itRng2, e_oNo, e_oVal, e_oOwn, e_oIo, e_bFor, e_sComp, e_sDeal, e_cYes, kGet, kOpt, kLis, kE, kP, kAs1, kAs, kDer, kOp, kDisp, kVar, kMv, kVal, kAndT, kOrT, kNotT, kTru, kAndE, kOrE, kNotE, kIfE, kIfS, kNx, kSetS, kExp, kSt, kMut, kMut3, kMut2, kMut1, kMutA, kMut0, kPar2, kPar1, kPar0, kFn, kFnO, kCall, kIo, kIoO, kCallI, kCallI0, kItP, kItE, kSeq, kEnum, kForB, kComp1, kComp, kDeal2, kDeal1, kDeal0, List.getElem?_cons_succ, List.getElem?_cons_zero, List.set_cons_zero, List.set_cons_succ, List.length_nil, List.length_cons, Bool.false_and, Bool.and_false, Bool.true_and, Bool.and_true, Bool.not_true, Bool.not_false, Bool.false_eq_true, if_true, if_false, reduceIte, Option.map_some, Option.map_none, Option.bind_some, Option.bind_none, D.seals, D.isB, l1, l2, frz, frzA, oAppend, oPop, oPopAt, oExtend, mTup, mLst, Nat.zero_le, argsVL, ioC, seqOf, okSeq, unlS, unlock, unlO, unlI, derefB, D.truth, e_bAsg, e_stN, e_stT, e_stNil, e_stCons, kAsgS, kCn]
theorem n2_ok {gs : List Int} {s : Int} {m l : D} (g : GD gs s) : ∃ gs' s' f p, n2 [.io (.deal gs s), .lent m, .own l, .no, .no, .no, .no] = .nx [.io (.deal gs' s'), .lent m, .own l, .val (.int f), .val (.int p), .no, .no] ∧ GD gs' s' ∧ 0 ≤ f ∧ f < 3 ∧ 0 ≤ p ∧ p < 26 := by
  obtain ⟨f, g1, s1, e1, d1, f0, f1⟩ := draw_ok g (m := 3) (by omega) (by omega)
  obtain ⟨p, g2, s2, e2, d2, p0, p1⟩ := draw_ok d1 (m := 26) (by omega) (by omega)
  refine ⟨g2, s2, f, p, ?_, d2, f0, f1, p0, p1⟩
  have hz : 0 + 1 + 1 ≤ sizeLine := by show 2 ≤ 16777216; omega
  unfold n2
  simp only [hz, nmD e1, nmD e2, apart, List.all_nil, List.all_cons, e_bok, e_bexc, e_bno, e_tok, e_texc, e_tno, e_snx, e_srt, e_sbk, e_sct, e_sexc, e_sno, e_getP, e_evE, e_evP, e_evN, e_evC, e_derN, e_derC, e_derBC, e_der, e_derP, e_sArgs, e_sOp, e_sDisp, e_sVar, e_mvVar, e_sC, e_cVal, e_cAnd, e_cOr, e_cNot, e_cTru, e_sAnd, e_sOr, e_sNot, e_sIf, e_bNil, e_bCons, e_bIf, e_bSet, e_bExpr, e_bRet, e_bRetN, e_bPass, e_stS, e_mutS, e_sMut, e_bPar, e_sCallV, e_sCallI, e_itP, e_itAP, e_itAE, e_itSeq, e_itEnum, e_itRng1, e_itRng2, e_oNo, e_oVal, e_oOwn, e_oIo, e_bFor, e_sComp, e_sDeal, e_cYes, kGet, kOpt, kLis, kE, kP, kAs1, kAs, kDer, kOp, kDisp, kVar, kMv, kVal, kAndT, kOrT, kNotT, kTru, kAndE, kOrE, kNotE, kIfE, kIfS, kNx, kSetS, kExp, kSt, kMut, kMut3, kMut2, kMut1, kMutA, kMut0, kPar2, kPar1, kPar0, kFn, kFnO, kCall, kIo, kIoO, kCallI, kCallI0, kItP, kItE, kSeq, kEnum, kForB, kComp1, kComp, kDeal2, kDeal1, kDeal0, List.getElem?_cons_succ, List.getElem?_cons_zero, List.set_cons_zero, List.set_cons_succ, List.length_nil, List.length_cons, Bool.false_and, Bool.and_false, Bool.true_and, Bool.and_true, Bool.not_true, Bool.not_false, Bool.false_eq_true, if_true, if_false, reduceIte, Option.map_some, Option.map_none, Option.bind_some, Option.bind_none, D.seals, D.isB, l1, l2, frz, frzA, oAppend, oPop, oPopAt, oExtend, mTup, mLst, Nat.zero_le, argsVL, ioC, seqOf, okSeq, unlS, unlock, unlO, unlI, derefB, D.truth, e_bAsg, e_stN, e_stT, e_stNil, e_stCons, kAsgS, kCn]
abbrev RHO (dl : D) (m f p : Int) (a b : J.Slot) : J.Env := [.io dl, .lent (.int m), .own (.lst (ten.map D.str)), .val (.int f), .val (.int p), a, b]
/-- a call that changes the deal, at slot 0 -/
theorem callI_e {M : List D → RF} {d0 d1 : D} {l : List D} {f : SE} {ρ : J.Env} {r : Bool × D} (hf : f (.io d0 :: ρ) = .ok (true, .lst l) (.io d0 :: ρ)) (e : M [d0, .lst l] = .ok r d1) : sCallI [true] M 0 [.e f] (.io d0 :: ρ) = .ok r (.io d1 :: ρ) := by
  simp only [hf, e, apart, List.all_nil, List.all_cons, e_bok, e_bexc, e_bno, e_tok, e_texc, e_tno, e_snx, e_srt, e_sbk, e_sct, e_sexc, e_sno, e_getP, e_evE, e_evP, e_evN, e_evC, e_derN, e_derC, e_derBC, e_der, e_derP, e_sArgs, e_sOp, e_sDisp, e_sVar, e_mvVar, e_sC, e_cVal, e_cAnd, e_cOr, e_cNot, e_cTru, e_sAnd, e_sOr, e_sNot, e_sIf, e_bNil, e_bCons, e_bIf, e_bSet, e_bExpr, e_bRet, e_bRetN, e_bPass, e_stS, e_mutS, e_sMut, e_bPar, e_sCallV, e_sCallI, e_itP, e_itAP, e_itAE, e_itSeq, e_itEnum, e_itRng1, e_itRng2, e_oNo, e_oVal, e_oOwn, e_oIo, e_bFor, e_sComp, e_sDeal, e_cYes, kGet, kOpt, kLis, kE, kP, kAs1, kAs, kDer, kOp, kDisp, kVar, kMv, kVal, kAndT, kOrT, kNotT, kTru, kAndE, kOrE, kNotE, kIfE, kIfS, kNx, kSetS, kExp, kSt, kMut, kMut3, kMut2, kMut1, kMutA, kMut0, kPar2, kPar1, kPar0, kFn, kFnO, kCall, kIo, kIoO, kCallI, kCallI0, kItP, kItE, kSeq, kEnum, kForB, kComp1, kComp, kDeal2, kDeal1, kDeal0, List.getElem?_cons_succ, List.getElem?_cons_zero, List.set_cons_zero, List.set_cons_succ, List.length_nil, List.length_cons, Bool.false_and, Bool.and_false, Bool.true_and, Bool.and_true, Bool.not_true, Bool.not_false, Bool.false_eq_true, if_true, if_false, reduceIte, Option.map_some, Option.map_none, Option.bind_some, Option.bind_none, D.seals, D.isB, l1, l2, frz, frzA, oAppend, oPop, oPopAt, oExtend, mTup, mLst, Nat.zero_le, argsVL, ioC, seqOf, okSeq, unlS, unlock, unlO, unlI, derefB, D.truth, e_bAsg, e_stN, e_stT, e_stNil, e_stCons, kAsgS, kCn]
theorem ne20 : ((2 : Nat) != 0) = true := rfl
theorem ne00 : ((0 : Nat) != 0) = false := rfl
def n3a : SS := bRet (sOp (l2 dSl01) [.e (sCallI [true] (M__law_shuffled) 0 [.p 2]), .p 1])
def n3 : SS := bIf (cVal (sOp (l2 dEq) [.p 3, .e (sC (.int 0))])) n3a bNil
def strsD (xs : List Str) : D := .lst (xs.map D.str)
theorem n3_yes {gs : List Int} {s p : Int} {n : Nat} (g : GD gs s) (hn : n < 6) : ∃ gs' s' xs ρ, n3 (RHO (.deal gs s) n 0 p .no .no) = .rt (true, strsD xs) (.io (.deal gs' s') :: ρ) ∧ GD gs' s' ∧ Good xs := by
  obtain ⟨gs', s', ys, e, g', pm⟩ := shuffled_strs (xs := ten) g (by decide)
  have hs : dSl01 (.lst (ys.map D.str)) (.int (n : Int)) = some (true, strsD (ys.take n)) := by
    show some (true, D.lst (J.cutD (ys.map D.str) none (some (n : Int)))) = _
    rw [cut_to, ← List.map_take]; rfl
  refine ⟨gs', s', ys.take n, [.lent (.int n), .own (.lst (ten.map D.str)), .val (.int 0), .val (.int p), .no, .no], ?_, g', Good.ten pm n (by omega)⟩
  unfold n3 n3a
  simp only [eq_ints, beq_self_eq_true, e, hs, ne20, apart, List.all_nil, List.all_cons, e_bok, e_bexc, e_bno, e_tok, e_texc, e_tno, e_snx, e_srt, e_sbk, e_sct, e_sexc, e_sno, e_getP, e_evE, e_evP, e_evN, e_evC, e_derN, e_derC, e_derBC, e_der, e_derP, e_sArgs, e_sOp, e_sDisp, e_sVar, e_mvVar, e_sC, e_cVal, e_cAnd, e_cOr, e_cNot, e_cTru, e_sAnd, e_sOr, e_sNot, e_sIf, e_bNil, e_bCons, e_bIf, e_bSet, e_bExpr, e_bRet, e_bRetN, e_bPass, e_stS, e_mutS, e_sMut, e_bPar, e_sCallV, e_sCallI, e_itP, e_itAP, e_itAE, e_itSeq, e_itEnum, e_itRng1, e_itRng2, e_oNo, e_oVal, e_oOwn, e_oIo, e_bFor, e_sComp, e_sDeal, e_cYes, kGet, kOpt, kLis, kE, kP, kAs1, kAs, kDer, kOp, kDisp, kVar, kMv, kVal, kAndT, kOrT, kNotT, kTru, kAndE, kOrE, kNotE, kIfE, kIfS, kNx, kSetS, kExp, kSt, kMut, kMut3, kMut2, kMut1, kMutA, kMut0, kPar2, kPar1, kPar0, kFn, kFnO, kCall, kIo, kIoO, kCallI, kCallI0, kItP, kItE, kSeq, kEnum, kForB, kComp1, kComp, kDeal2, kDeal1, kDeal0, List.getElem?_cons_succ, List.getElem?_cons_zero, List.set_cons_zero, List.set_cons_succ, List.length_nil, List.length_cons, Bool.false_and, Bool.and_false, Bool.true_and, Bool.and_true, Bool.not_true, Bool.not_false, Bool.false_eq_true, if_true, if_false, reduceIte, Option.map_some, Option.map_none, Option.bind_some, Option.bind_none, D.seals, D.isB, l1, l2, frz, frzA, oAppend, oPop, oPopAt, oExtend, mTup, mLst, Nat.zero_le, argsVL, ioC, seqOf, okSeq, unlS, unlock, unlO, unlI, derefB, D.truth, e_bAsg, e_stN, e_stT, e_stNil, e_stCons, kAsgS, kCn]
theorem n3_no {dl : D} {m f p : Int} {a b : J.Slot} (h : f ≠ 0) : n3 (RHO dl m f p a b) = .nx (RHO dl m f p a b) := by
  have hf : (f == 0) = false := by simpa using h
  unfold n3
  simp only [eq_ints, hf, e_bok, e_bexc, e_bno, e_tok, e_texc, e_tno, e_snx, e_srt, e_sbk, e_sct, e_sexc, e_sno, e_getP, e_evE, e_evP, e_evN, e_evC, e_derN, e_derC, e_derBC, e_der, e_derP, e_sArgs, e_sOp, e_sDisp, e_sVar, e_mvVar, e_sC, e_cVal, e_cAnd, e_cOr, e_cNot, e_cTru, e_sAnd, e_sOr, e_sNot, e_sIf, e_bNil, e_bCons, e_bIf, e_bSet, e_bExpr, e_bRet, e_bRetN, e_bPass, e_stS, e_mutS, e_sMut, e_bPar, e_sCallV, e_sCallI, e_itP, e_itAP, e_itAE, e_itSeq, e_itEnum, e_itRng1, e_itRng2, e_oNo, e_oVal, e_oOwn, e_oIo, e_bFor, e_sComp, e_sDeal, e_cYes, kGet, kOpt, kLis, kE, kP, kAs1, kAs, kDer, kOp, kDisp, kVar, kMv, kVal, kAndT, kOrT, kNotT, kTru, kAndE, kOrE, kNotE, kIfE, kIfS, kNx, kSetS, kExp, kSt, kMut, kMut3, kMut2, kMut1, kMutA, kMut0, kPar2, kPar1, kPar0, kFn, kFnO, kCall, kIo, kIoO, kCallI, kCallI0, kItP, kItE, kSeq, kEnum, kForB, kComp1, kComp, kDeal2, kDeal1, kDeal0, List.getElem?_cons_succ, List.getElem?_cons_zero, List.set_cons_zero, List.set_cons_succ, List.length_nil, List.length_cons, Bool.false_and, Bool.and_false, Bool.true_and, Bool.and_true, Bool.not_true, Bool.not_false, Bool.false_eq_true, if_true, if_false, reduceIte, Option.map_some, Option.map_none, Option.bind_some, Option.bind_none, D.seals, D.isB, l1, l2, frz, frzA, oAppend, oPop, oPopAt, oExtend, mTup, mLst, Nat.zero_le, argsVL, ioC, seqOf, okSeq, unlS, unlock, unlO, unlI, derefB, D.truth, e_bAsg, e_stN, e_stT, e_stNil, e_stCons, kAsgS, kCn]

/-! the second form -/
def zE : SE := sOp (l2 dSl01) [.e (sC (.str "zzzz")), .e (sOp (l2 dAdd) [.p 5, .e (sC (.int 1))])]
def zC : SE := sComp (itRng1 (.p 1)) [5] (J.stN 5) cYes zE
def zD : D → D
  | .int k => .str (zcut k)
  | d => d
theorem add_ints (i j : Int) : dAdd (.int i) (.int j) = some (false, .int (i + j)) := rfl
theorem z_sl (k : Int) : dSl01 (.str "zzzz") (.int (k + 1)) = some (false, .str (zcut k)) := by
  show (if ((("zzzz" : String) : Str)).length ≤ sizeLine then some (false, D.str (zcut k)) else none) = some (false, D.str (zcut k))
  rw [if_pos (by show 4 ≤ 16777216; omega)]
theorem rng_len (lo : Int) (n : Nat) : (rng lo n).length = n := by
  unfold rng
  rw [List.length_map, List.length_range]
theorem zC_ok {dl l : D} {f p : Int} {n : Nat} (hn : n < 6) : zC [.io dl, .lent (.int (n : Nat)), .own l, .val (.int f), .val (.int p), .no, .no] = .ok (true, .lst ((zs n).map D.str)) [.io dl, .lent (.int (n : Nat)), .own l, .val (.int f), .val (.int p), .no, .no] := by
  have hs : sArgs [.p 1] [.io dl, .lent (.int (n : Nat)), .own l, .val (.int f), .val (.int p), .no, .no] = .ok [.int (n : Nat)] [.io dl, .lent (.int (n : Nat)), .own l, .val (.int f), .val (.int p), .no, .no] := by
    simp only [e_bok, e_bexc, e_bno, e_tok, e_texc, e_tno, e_snx, e_srt, e_sbk, e_sct, e_sexc, e_sno, e_getP, e_evE, e_evP, e_evN, e_evC, e_derN, e_derC, e_derBC, e_der, e_derP, e_sArgs, e_sOp, e_sDisp, e_sVar, e_mvVar, e_sC, e_cVal, e_cAnd, e_cOr, e_cNot, e_cTru, e_sAnd, e_sOr, e_sNot, e_sIf, e_bNil, e_bCons, e_bIf, e_bSet, e_bExpr, e_bRet, e_bRetN, e_bPass, e_stS, e_mutS, e_sMut, e_bPar, e_sCallV, e_sCallI, e_itP, e_itAP, e_itAE, e_itSeq, e_itEnum, e_itRng1, e_itRng2, e_oNo, e_oVal, e_oOwn, e_oIo, e_bFor, e_sComp, e_sDeal, e_cYes, kGet, kOpt, kLis, kE, kP, kAs1, kAs, kDer, kOp, kDisp, kVar, kMv, kVal, kAndT, kOrT, kNotT, kTru, kAndE, kOrE, kNotE, kIfE, kIfS, kNx, kSetS, kExp, kSt, kMut, kMut3, kMut2, kMut1, kMutA, kMut0, kPar2, kPar1, kPar0, kFn, kFnO, kCall, kIo, kIoO, kCallI, kCallI0, kItP, kItE, kSeq, kEnum, kForB, kComp1, kComp, kDeal2, kDeal1, kDeal0, List.getElem?_cons_succ, List.getElem?_cons_zero, List.set_cons_zero, List.set_cons_succ, List.length_nil, List.length_cons, Bool.false_and, Bool.and_false, Bool.true_and, Bool.and_true, Bool.not_true, Bool.not_false, Bool.false_eq_true, if_true, if_false, reduceIte, Option.map_some, Option.map_none, Option.bind_some, Option.bind_none, D.seals, D.isB, l1, l2, frz, frzA, oAppend, oPop, oPopAt, oExtend, mTup, mLst, Nat.zero_le, argsVL, ioC, seqOf, okSeq, unlS, unlock, unlO, unlI, derefB, D.truth, e_bAsg, e_stN, e_stT, e_stNil, e_stCons, kAsgS, kCn]
  have hi : itRng1 (.p 1) [.io dl, .lent (.int (n : Nat)), .own l, .val (.int f), .val (.int p), .no, .no] = .ok (rng 0 n, .none) [.io dl, .lent (.int (n : Nat)), .own l, .val (.int f), .val (.int p), .no, .no] := by
    rw [e_itRng1, hs, e_bok, r1_ok (rng_cast (by omega))]
    rfl
  have hL := loopC_map (own := [5]) (st := J.stN 5) (c := cYes) (el := zE) (ρ := [.io dl, .lent (.int (n : Nat)), .own l, .val (.int f), .val (.int p), .no, .no]) (f := zD) (rng 0 n) (fun d hd => by
    obtain ⟨k, _, rfl⟩ := List.mem_map.mp hd
    refine ⟨[.io dl, .lent (.int (n : Nat)), .own l, .val (.int f), .val (.int p), .val (.int (0 + (k : Int))), .no], _, [.io dl, .lent (.int (n : Nat)), .own l, .val (.int f), .val (.int p), .val (.int (0 + (k : Int))), .no], rfl, rfl, ?_, rfl⟩
    have h2 : zD (.int (0 + (k : Int))) = .str (zcut (0 + (k : Int))) := rfl
    unfold zE
    simp only [add_ints, z_sl, h2, e_bok, e_bexc, e_bno, e_tok, e_texc, e_tno, e_snx, e_srt, e_sbk, e_sct, e_sexc, e_sno, e_getP, e_evE, e_evP, e_evN, e_evC, e_derN, e_derC, e_derBC, e_der, e_derP, e_sArgs, e_sOp, e_sDisp, e_sVar, e_mvVar, e_sC, e_cVal, e_cAnd, e_cOr, e_cNot, e_cTru, e_sAnd, e_sOr, e_sNot, e_sIf, e_bNil, e_bCons, e_bIf, e_bSet, e_bExpr, e_bRet, e_bRetN, e_bPass, e_stS, e_mutS, e_sMut, e_bPar, e_sCallV, e_sCallI, e_itP, e_itAP, e_itAE, e_itSeq, e_itEnum, e_itRng1, e_itRng2, e_oNo, e_oVal, e_oOwn, e_oIo, e_bFor, e_sComp, e_sDeal, e_cYes, kGet, kOpt, kLis, kE, kP, kAs1, kAs, kDer, kOp, kDisp, kVar, kMv, kVal, kAndT, kOrT, kNotT, kTru, kAndE, kOrE, kNotE, kIfE, kIfS, kNx, kSetS, kExp, kSt, kMut, kMut3, kMut2, kMut1, kMutA, kMut0, kPar2, kPar1, kPar0, kFn, kFnO, kCall, kIo, kIoO, kCallI, kCallI0, kItP, kItE, kSeq, kEnum, kForB, kComp1, kComp, kDeal2, kDeal1, kDeal0, List.getElem?_cons_succ, List.getElem?_cons_zero, List.set_cons_zero, List.set_cons_succ, List.length_nil, List.length_cons, Bool.false_and, Bool.and_false, Bool.true_and, Bool.and_true, Bool.not_true, Bool.not_false, Bool.false_eq_true, if_true, if_false, reduceIte, Option.map_some, Option.map_none, Option.bind_some, Option.bind_none, D.seals, D.isB, l1, l2, frz, frzA, oAppend, oPop, oPopAt, oExtend, mTup, mLst, Nat.zero_le, argsVL, ioC, seqOf, okSeq, unlS, unlock, unlO, unlI, derefB, D.truth, e_bAsg, e_stN, e_stT, e_stNil, e_stCons, kAsgS, kCn]) []
  have hm : (rng 0 n).map zD = (zs n).map D.str := by
    unfold rng zs
    rw [List.map_map, List.map_map]
    rfl
  unfold zC
  rw [e_sComp, hi, e_bok]
  unfold kComp
  rw [if_pos ⟨rfl, by show (rng 0 n).length < _; rw [rng_len]; unfold sizeLine; omega⟩]
  show kComp1 _ _ _ (loopC [5] (J.stN 5) cYes zE (rng 0 n) [.io dl, .lent (.int (n : Nat)), .own l, .val (.int f), .val (.int p), .no, .no] []) = _
  rw [hL, hm]
  rfl
def n4 : SS := bIf (cVal (sOp (l2 dEq) [.p 3, .e (sC (.int 1))])) (bRet (sCallI [true] (M__law_shuffled) 0 [.e zC])) bNil
theorem n4_yes {gs : List Int} {s p : Int} {n : Nat} (g : GD gs s) (hn : n < 6) : ∃ gs' s' xs ρ, n4 (RHO (.deal gs s) n 1 p .no .no) = .rt (true, strsD xs) (.io (.deal gs' s') :: ρ) ∧ GD gs' s' ∧ Good xs := by
  have hl : (zs n).length < 64 := by unfold zs; rw [List.length_map, List.length_range]; omega
  obtain ⟨gs', s', ys, e, g', pm⟩ := shuffled_strs (xs := zs n) g hl
  have hz := zC_ok (dl := .deal gs s) (l := .lst (ten.map D.str)) (f := 1) (p := p) hn
  refine ⟨gs', s', ys, [.lent (.int n), .own (.lst (ten.map D.str)), .val (.int 1), .val (.int p), .no, .no], ?_, g', (zs_good n hn).perm pm⟩
  have hc := callI_e (M := M__law_shuffled) (l := (zs n).map D.str) hz e
  unfold n4
  simp only [eq_ints, beq_self_eq_true, hc, e_bok, e_bexc, e_bno, e_tok, e_texc, e_tno, e_snx, e_srt, e_sbk, e_sct, e_sexc, e_sno, e_getP, e_evE, e_evP, e_evN, e_evC, e_derN, e_derC, e_derBC, e_der, e_derP, e_sArgs, e_sOp, e_sDisp, e_sVar, e_mvVar, e_sC, e_cVal, e_cAnd, e_cOr, e_cNot, e_cTru, e_sAnd, e_sOr, e_sNot, e_sIf, e_bNil, e_bCons, e_bIf, e_bSet, e_bExpr, e_bRet, e_bRetN, e_bPass, e_stS, e_mutS, e_sMut, e_bPar, e_sCallV, e_sCallI, e_itP, e_itAP, e_itAE, e_itSeq, e_itEnum, e_itRng1, e_itRng2, e_oNo, e_oVal, e_oOwn, e_oIo, e_bFor, e_sComp, e_sDeal, e_cYes, kGet, kOpt, kLis, kE, kP, kAs1, kAs, kDer, kOp, kDisp, kVar, kMv, kVal, kAndT, kOrT, kNotT, kTru, kAndE, kOrE, kNotE, kIfE, kIfS, kNx, kSetS, kExp, kSt, kMut, kMut3, kMut2, kMut1, kMutA, kMut0, kPar2, kPar1, kPar0, kFn, kFnO, kCall, kIo, kIoO, kCallI, kCallI0, kItP, kItE, kSeq, kEnum, kForB, kComp1, kComp, kDeal2, kDeal1, kDeal0, List.getElem?_cons_succ, List.getElem?_cons_zero, List.set_cons_zero, List.set_cons_succ, List.length_nil, List.length_cons, Bool.false_and, Bool.and_false, Bool.true_and, Bool.and_true, Bool.not_true, Bool.not_false, Bool.false_eq_true, if_true, if_false, reduceIte, Option.map_some, Option.map_none, Option.bind_some, Option.bind_none, D.seals, D.isB, l1, l2, frz, frzA, oAppend, oPop, oPopAt, oExtend, mTup, mLst, Nat.zero_le, argsVL, ioC, seqOf, okSeq, unlS, unlock, unlO, unlI, derefB, D.truth, e_bAsg, e_stN, e_stT, e_stNil, e_stCons, kAsgS, kCn]
  rfl
theorem n4_no {dl : D} {m f p : Int} {a b : J.Slot} (h : f ≠ 1) : n4 (RHO dl m f p a b) = .nx (RHO dl m f p a b) := by
  have hf : (f == 1) = false := by simpa using h
  unfold n4
  simp only [eq_ints, hf, e_bok, e_bexc, e_bno, e_tok, e_texc, e_tno, e_snx, e_srt, e_sbk, e_sct, e_sexc, e_sno, e_getP, e_evE, e_evP, e_evN, e_evC, e_derN, e_derC, e_derBC, e_der, e_derP, e_sArgs, e_sOp, e_sDisp, e_sVar, e_mvVar, e_sC, e_cVal, e_cAnd, e_cOr, e_cNot, e_cTru, e_sAnd, e_sOr, e_sNot, e_sIf, e_bNil, e_bCons, e_bIf, e_bSet, e_bExpr, e_bRet, e_bRetN, e_bPass, e_stS, e_mutS, e_sMut, e_bPar, e_sCallV, e_sCallI, e_itP, e_itAP, e_itAE, e_itSeq, e_itEnum, e_itRng1, e_itRng2, e_oNo, e_oVal, e_oOwn, e_oIo, e_bFor, e_sComp, e_sDeal, e_cYes, kGet, kOpt, kLis, kE, kP, kAs1, kAs, kDer, kOp, kDisp, kVar, kMv, kVal, kAndT, kOrT, kNotT, kTru, kAndE, kOrE, kNotE, kIfE, kIfS, kNx, kSetS, kExp, kSt, kMut, kMut3, kMut2, kMut1, kMutA, kMut0, kPar2, kPar1, kPar0, kFn, kFnO, kCall, kIo, kIoO, kCallI, kCallI0, kItP, kItE, kSeq, kEnum, kForB, kComp1, kComp, kDeal2, kDeal1, kDeal0, List.getElem?_cons_succ, List.getElem?_cons_zero, List.set_cons_zero, List.set_cons_succ, List.length_nil, List.length_cons, Bool.false_and, Bool.and_false, Bool.true_and, Bool.and_true, Bool.not_true, Bool.not_false, Bool.false_eq_true, if_true, if_false, reduceIte, Option.map_some, Option.map_none, Option.bind_some, Option.bind_none, D.seals, D.isB, l1, l2, frz, frzA, oAppend, oPop, oPopAt, oExtend, mTup, mLst, Nat.zero_le, argsVL, ioC, seqOf, okSeq, unlS, unlock, unlO, unlI, derefB, D.truth, e_bAsg, e_stN, e_stT, e_stNil, e_stCons, kAsgS, kCn]


/-! the third form -/
def lE : SE := sOp (l2 dAdd) [.e (sOp (l2 dIx) [.p 6, .e (sOp (l2 dMod) [.e (sOp (l1 dInt) [.e (sOp (l2 dAdd) [.p 4, .e (sOp (l2 dMul) [.e (sC (.int 11)), .p 5])])]), .e (sC (.int 26))])]), .e (sOp (l2 dSl01) [.e (sC (.str "wq")), .e (sOp (l2 dMod) [.e (sOp (l1 dInt) [.p 4]), .e (sC (.int 3))])])]
def lC : SE := sComp (itRng1 (.p 1)) [5] (J.stN 5) cYes lE
def lD (p : Int) : D → D
  | .int k => .str (nm p k)
  | d => d
theorem mul_11 {k : Int} (h0 : 0 ≤ k) (h : k < 32) : dMul (.int 11) (.int k) = some (false, .int (11 * k)) := by
  have h1 : Builtin.Int.intBits 11 ≤ 4 := bits_le (by omega) (by omega)
  have h2 : Builtin.Int.intBits k ≤ 5 := bits_le h0 (by omega)
  exact dII_ok (decide_eq_true (by omega))
def let1 (j : Int) : Str := ((atI abc.cps.toList j).map fun c => (⟨#[c]⟩ : Str)).getD ""
theorem ix_abc : ∀ j : Nat, j < 26 → dIx (.str abc) (.int (j : Int)) = some (false, .str (let1 j)) := by
  have h : ∀ j : Nat, j < 26 → (atI abc.cps.toList (j : Int)).isSome = true := by decide +kernel
  intro j hj
  have hs := h j hj
  unfold let1
  show (if abc.length ≤ sizeLine then (atI abc.cps.toList (j : Int)).map fun c => (false, D.str ⟨#[c]⟩) else none) = _
  rw [if_pos (by show 26 ≤ 16777216; omega)]
  cases e : atI abc.cps.toList (j : Int) with
  | none => rw [e] at hs; cases hs
  | some c => rfl
theorem let_len : ∀ j : Nat, j < 26 → (let1 j).length = 1 := by decide +kernel
theorem wq_sl (j : Int) : dSl01 (.str "wq") (.int j) = some (false, .str (cutS "wq" none (some j))) := by
  show (if ((("wq" : String) : Str)).length ≤ sizeLine then some (false, D.str (cutS "wq" none (some j))) else none) = _
  rw [if_pos (by show 2 ≤ 16777216; omega)]
theorem wq_len : ∀ j : Nat, j < 3 → (cutS "wq" none (some (j : Int))).length ≤ 2 := by decide +kernel
theorem add_strs {x y : Str} (h : x.length + y.length ≤ 16777216) : dAdd (.str x) (.str y) = some (false, .str (x ++ y)) := by
  show (if x.length + y.length ≤ sizeLine then some (false, D.str (x ++ y)) else none) = _
  rw [if_pos (by unfold sizeLine; exact h)]
theorem lE_ok {a b c d : D} {p k : Int} (hp0 : 0 ≤ p) (hp1 : p < 26) (hk0 : 0 ≤ k) (hk1 : k < 6) : lE [.io a, .lent b, .own c, .val d, .val (.int p), .val (.int k), .val (.str abc)] = .ok (false, .str (nm p k)) [.io a, .lent b, .own c, .val d, .val (.int p), .val (.int k), .val (.str abc)] := by
  have i1 : dInt (.int (p + 11 * k)) = some (false, .int (p + 11 * k)) := rfl
  have i2 : dInt (.int p) = some (false, .int p) := rfl
  have m1 : dMod (.int (p + 11 * k)) (.int 26) = some (false, .int ((p + 11 * k) % 26)) := mod_ok (by omega)
  have m2 : dMod (.int p) (.int 3) = some (false, .int (p % 3)) := mod_ok (by omega)
  obtain ⟨j, hj⟩ := Int.eq_ofNat_of_zero_le (Int.emod_nonneg (p + 11 * k) (by omega : (26 : Int) ≠ 0))
  have hj2 : j < 26 := by
    have := Int.emod_lt_of_pos (p + 11 * k) (by omega : (0 : Int) < 26)
    omega
  obtain ⟨i, hi⟩ := Int.eq_ofNat_of_zero_le (Int.emod_nonneg p (by omega : (3 : Int) ≠ 0))
  have hi2 : i < 3 := by
    have := Int.emod_lt_of_pos p (by omega : (0 : Int) < 3)
    omega
  have x1 := ix_abc j hj2
  have l1' := let_len j hj2
  have l2' := wq_len i hi2
  rw [← hj] at x1 l1'
  rw [← hi] at l2'
  have a1 : dAdd (.str (let1 ((p + 11 * k) % 26))) (.str (cutS "wq" none (some (p % 3)))) = some (false, .str (nm p k)) := add_strs (by omega)
  unfold lE
  simp only [mul_11 hk0 (by omega), add_ints, i1, i2, m1, m2, x1, wq_sl, a1, e_bok, e_bexc, e_bno, e_tok, e_texc, e_tno, e_snx, e_srt, e_sbk, e_sct, e_sexc, e_sno, e_getP, e_evE, e_evP, e_evN, e_evC, e_derN, e_derC, e_derBC, e_der, e_derP, e_sArgs, e_sOp, e_sDisp, e_sVar, e_mvVar, e_sC, e_cVal, e_cAnd, e_cOr, e_cNot, e_cTru, e_sAnd, e_sOr, e_sNot, e_sIf, e_bNil, e_bCons, e_bIf, e_bSet, e_bExpr, e_bRet, e_bRetN, e_bPass, e_stS, e_mutS, e_sMut, e_bPar, e_sCallV, e_sCallI, e_itP, e_itAP, e_itAE, e_itSeq, e_itEnum, e_itRng1, e_itRng2, e_oNo, e_oVal, e_oOwn, e_oIo, e_bFor, e_sComp, e_sDeal, e_cYes, kGet, kOpt, kLis, kE, kP, kAs1, kAs, kDer, kOp, kDisp, kVar, kMv, kVal, kAndT, kOrT, kNotT, kTru, kAndE, kOrE, kNotE, kIfE, kIfS, kNx, kSetS, kExp, kSt, kMut, kMut3, kMut2, kMut1, kMutA, kMut0, kPar2, kPar1, kPar0, kFn, kFnO, kCall, kIo, kIoO, kCallI, kCallI0, kItP, kItE, kSeq, kEnum, kForB, kComp1, kComp, kDeal2, kDeal1, kDeal0, List.getElem?_cons_succ, List.getElem?_cons_zero, List.set_cons_zero, List.set_cons_succ, List.length_nil, List.length_cons, Bool.false_and, Bool.and_false, Bool.true_and, Bool.and_true, Bool.not_true, Bool.not_false, Bool.false_eq_true, if_true, if_false, reduceIte, Option.map_some, Option.map_none, Option.bind_some, Option.bind_none, D.seals, D.isB, l1, l2, frz, frzA, oAppend, oPop, oPopAt, oExtend, mTup, mLst, Nat.zero_le, argsVL, ioC, seqOf, okSeq, unlS, unlock, unlO, unlI, derefB, D.truth, e_bAsg, e_stN, e_stT, e_stNil, e_stCons, kAsgS, kCn]
theorem lC_ok {a c d : D} {p : Int} {n q : Nat} (hn : n < 6) (hp : p = (q : Int)) (hq : q < 26) : lC [.io a, .lent (.int (n : Nat)), .own c, .val d, .val (.int p), .no, .val (.str abc)] = .ok (true, strsD (ns3 q n)) [.io a, .lent (.int (n : Nat)), .own c, .val d, .val (.int p), .no, .val (.str abc)] := by
  have hs : sArgs [.p 1] [.io a, .lent (.int (n : Nat)), .own c, .val d, .val (.int p), .no, .val (.str abc)] = .ok [.int (n : Nat)] [.io a, .lent (.int (n : Nat)), .own c, .val d, .val (.int p), .no, .val (.str abc)] := by
    simp only [e_bok, e_bexc, e_bno, e_tok, e_texc, e_tno, e_snx, e_srt, e_sbk, e_sct, e_sexc, e_sno, e_getP, e_evE, e_evP, e_evN, e_evC, e_derN, e_derC, e_derBC, e_der, e_derP, e_sArgs, e_sOp, e_sDisp, e_sVar, e_mvVar, e_sC, e_cVal, e_cAnd, e_cOr, e_cNot, e_cTru, e_sAnd, e_sOr, e_sNot, e_sIf, e_bNil, e_bCons, e_bIf, e_bSet, e_bExpr, e_bRet, e_bRetN, e_bPass, e_stS, e_mutS, e_sMut, e_bPar, e_sCallV, e_sCallI, e_itP, e_itAP, e_itAE, e_itSeq, e_itEnum, e_itRng1, e_itRng2, e_oNo, e_oVal, e_oOwn, e_oIo, e_bFor, e_sComp, e_sDeal, e_cYes, kGet, kOpt, kLis, kE, kP, kAs1, kAs, kDer, kOp, kDisp, kVar, kMv, kVal, kAndT, kOrT, kNotT, kTru, kAndE, kOrE, kNotE, kIfE, kIfS, kNx, kSetS, kExp, kSt, kMut, kMut3, kMut2, kMut1, kMutA, kMut0, kPar2, kPar1, kPar0, kFn, kFnO, kCall, kIo, kIoO, kCallI, kCallI0, kItP, kItE, kSeq, kEnum, kForB, kComp1, kComp, kDeal2, kDeal1, kDeal0, List.getElem?_cons_succ, List.getElem?_cons_zero, List.set_cons_zero, List.set_cons_succ, List.length_nil, List.length_cons, Bool.false_and, Bool.and_false, Bool.true_and, Bool.and_true, Bool.not_true, Bool.not_false, Bool.false_eq_true, if_true, if_false, reduceIte, Option.map_some, Option.map_none, Option.bind_some, Option.bind_none, D.seals, D.isB, l1, l2, frz, frzA, oAppend, oPop, oPopAt, oExtend, mTup, mLst, Nat.zero_le, argsVL, ioC, seqOf, okSeq, unlS, unlock, unlO, unlI, derefB, D.truth, e_bAsg, e_stN, e_stT, e_stNil, e_stCons, kAsgS, kCn]
  have hi : itRng1 (.p 1) [.io a, .lent (.int (n : Nat)), .own c, .val d, .val (.int p), .no, .val (.str abc)] = .ok (rng 0 n, .none) [.io a, .lent (.int (n : Nat)), .own c, .val d, .val (.int p), .no, .val (.str abc)] := by
    rw [e_itRng1, hs, e_bok, r1_ok (rng_cast (by omega))]
    rfl
  have hL := loopC_map (own := [5]) (st := J.stN 5) (c := cYes) (el := lE) (ρ := [.io a, .lent (.int (n : Nat)), .own c, .val d, .val (.int p), .no, .val (.str abc)]) (f := lD p) (rng 0 n) (fun x hx => by
    obtain ⟨k, hk, rfl⟩ := List.mem_map.mp hx
    have hk := List.mem_range.mp hk
    have he := lE_ok (a := a) (b := .int (n : Nat)) (c := c) (d := d) (p := p) (k := 0 + (k : Int)) (by omega) (by omega) (by omega) (by omega)
    refine ⟨[.io a, .lent (.int (n : Nat)), .own c, .val d, .val (.int p), .val (.int (0 + (k : Int))), .val (.str abc)], _, [.io a, .lent (.int (n : Nat)), .own c, .val d, .val (.int p), .val (.int (0 + (k : Int))), .val (.str abc)], rfl, rfl, ?_, rfl⟩
    have h2 : lD p (.int (0 + (k : Int))) = .str (nm p (0 + (k : Int))) := rfl
    rw [e_evE, he, h2]
    rfl) []
  have hm : (rng 0 n).map (lD p) = (ns3 q n).map D.str := by
    unfold rng ns3
    rw [List.map_map, List.map_map, hp]
    rfl
  unfold lC
  rw [e_sComp, hi, e_bok]
  unfold kComp
  rw [if_pos ⟨rfl, by show (rng 0 n).length < _; rw [rng_len]; unfold sizeLine; omega⟩]
  show kComp1 _ _ _ (loopC [5] (J.stN 5) cYes lE (rng 0 n) [.io a, .lent (.int (n : Nat)), .own c, .val d, .val (.int p), .no, .val (.str abc)] []) = _
  rw [hL, hm]
  rfl
def n5 : SS := bCons (bSet 6 (sC (.str "abcdefghijklmnopqrstuvwxyz"))) (bRet lC)
theorem n5_ok {dl : D} {f p : Int} {n : Nat} (hn : n < 6) (h0 : 0 ≤ p) (h1 : p < 26) : ∃ xs ρ, n5 (RHO dl n f p .no .no) = .rt (true, strsD xs) (.io dl :: ρ) ∧ Good xs := by
  obtain ⟨q, hq⟩ := Int.eq_ofNat_of_zero_le h0
  have hc := lC_ok (a := dl) (c := .lst (ten.map D.str)) (d := .int f) (p := p) (n := n) (q := q) hn hq (by omega)
  refine ⟨ns3 q n, [.lent (.int n), .own (.lst (ten.map D.str)), .val (.int f), .val (.int p), .no, .val (.str abc)], ?_, ns3_good q (by omega) n hn⟩
  unfold n5
  have e : bSet 6 (sC (.str "abcdefghijklmnopqrstuvwxyz")) (RHO dl n f p .no .no) = .nx [.io dl, .lent (.int n), .own (.lst (ten.map D.str)), .val (.int f), .val (.int p), .no, .val (.str abc)] := rfl
  rw [e_bCons, e, e_snx, e_bRet, hc]
  rfl
theorem names_eq : m__law_names = bCons n1 (bCons n2 (bCons n3 (bCons n4 n5))) := rfl
theorem names_ok {gs : List Int} {s : Int} {n : Nat} (g : GD gs s) (hn : n < 6) : ∃ gs' s' xs, M__law_names [.deal gs s, .int n] = .ok (true, strsD xs) (.deal gs' s') ∧ GD gs' s' ∧ Good xs := by
  obtain ⟨gs1, s1, f, p, e2, g1, f0, f1, p0, p1⟩ := n2_ok (m := .int n) (l := .lst (ten.map D.str)) g
  have e1 := n1_ok (dl := .deal gs s) (m := .int n)
  have key : ∃ gs' s' xs ρ, bCons n3 (bCons n4 n5) (RHO (.deal gs1 s1) n f p .no .no) = .rt (true, strsD xs) (.io (.deal gs' s') :: ρ) ∧ GD gs' s' ∧ Good xs := by
    by_cases z : f = 0
    · subst z
      obtain ⟨gs', s', xs, ρ, e, gd, go⟩ := n3_yes (p := p) g1 hn
      exact ⟨gs', s', xs, ρ, by rw [e_bCons, e, e_srt], gd, go⟩
    · by_cases z1 : f = 1
      · subst z1
        obtain ⟨gs', s', xs, ρ, e, gd, go⟩ := n4_yes (p := p) g1 hn
        exact ⟨gs', s', xs, ρ, by rw [e_bCons, n3_no z, e_snx, e_bCons, e, e_srt], gd, go⟩
      · obtain ⟨xs, ρ, e, go⟩ := n5_ok (dl := .deal gs1 s1) (f := f) hn p0 p1
        exact ⟨gs1, s1, xs, ρ, by rw [e_bCons, n3_no z, e_snx, e_bCons, n4_no z1, e_snx, e], g1, go⟩
  obtain ⟨gs', s', xs, ρ, e, gd, go⟩ := key
  refine ⟨gs', s', xs, runI_rt (n := 5) (md := [true]) (f := m__law_names) (ρ := .io (.deal gs' s') :: ρ) ?_ rfl, gd, go⟩
  rw [names_eq]
  show bCons n1 (bCons n2 (bCons n3 (bCons n4 n5))) [.io (.deal gs s), .lent (.int n), .no, .no, .no, .no, .no] = _
  rw [e_bCons, e1, e_snx, e_bCons, e2, e_snx, e]


/-! ### a turn -/
abbrev TS (sc dl : D) (t2 t3 t4 t5 t6 t7 t8 t9 : J.Slot) : J.Env := [.lent sc, .own dl, t2, t3, t4, t5, t6, t7, t8, t9, .no, .no]
section
variable {sc : D} {t2 t3 t4 t5 t6 t7 t8 t9 : J.Slot} {gs : List Int} {s : Int} {xs ys : List Str}
def u1 : SS := bSet 3 (sCallI [true] (M__law_names) 1 [.e (sCallI [false] (M__law_draw) 1 [.e (sC (.int 6))])])
theorem nat_of {r m : Int} (h0 : 0 ≤ r) (h1 : r < m) : ∃ n : Nat, r = (n : Int) ∧ (n : Int) < m := by
  obtain ⟨n, hn⟩ := Int.eq_ofNat_of_zero_le h0
  exact ⟨n, hn, by omega⟩
theorem u1_ok (g : GD gs s) (h3 : t3.open = true) : ∃ gs' s' xs, u1 (TS sc (.deal gs s) t2 t3 t4 t5 t6 t7 t8 t9) = .nx (TS sc (.deal gs' s') t2 (.own (.lst (xs.map D.str))) t4 t5 t6 t7 t8 t9) ∧ GD gs' s' ∧ Good xs := by
  obtain ⟨r, g1, s1, e1, d1, r0, r1⟩ := draw_ok g (m := 6) (by omega) (by omega)
  obtain ⟨n, rfl, hn⟩ := nat_of r0 r1
  obtain ⟨g2, s2, xs, e2, d2, go⟩ := names_ok d1 (n := n) (by omega)
  refine ⟨g2, s2, xs, ?_, d2, go⟩
  have e2 : M__law_names [.deal g1 s1, .int n] = .ok (true, .lst (xs.map D.str)) (.deal g2 s2) := e2
  have e1 := nmD e1
  unfold u1
  simp only [e1, e2, h3, apart, List.all_nil, List.all_cons, e_bok, e_bexc, e_bno, e_tok, e_texc, e_tno, e_snx, e_srt, e_sbk, e_sct, e_sexc, e_sno, e_getP, e_evE, e_evP, e_evN, e_evC, e_derN, e_derC, e_derBC, e_der, e_derP, e_sArgs, e_sOp, e_sDisp, e_sVar, e_mvVar, e_sC, e_cVal, e_cAnd, e_cOr, e_cNot, e_cTru, e_sAnd, e_sOr, e_sNot, e_sIf, e_bNil, e_bCons, e_bIf, e_bSet, e_bExpr, e_bRet, e_bRetN, e_bPass, e_stS, e_mutS, e_sMut, e_bPar, e_sCallV, e_sCallI, e_itP, e_itAP, e_itAE, e_itSeq, e_itEnum, e_itRng1, e_itRng2, e_oNo, e_oVal, e_oOwn, e_oIo, e_bFor, e_sComp, e_sDeal, e_cYes, kGet, kOpt, kLis, kE, kP, kAs1, kAs, kDer, kOp, kDisp, kVar, kMv, kVal, kAndT, kOrT, kNotT, kTru, kAndE, kOrE, kNotE, kIfE, kIfS, kNx, kSetS, kExp, kSt, kMut, kMut3, kMut2, kMut1, kMutA, kMut0, kPar2, kPar1, kPar0, kFn, kFnO, kCall, kIo, kIoO, kCallI, kCallI0, kItP, kItE, kSeq, kEnum, kForB, kComp1, kComp, kDeal2, kDeal1, kDeal0, List.getElem?_cons_succ, List.getElem?_cons_zero, List.set_cons_zero, List.set_cons_succ, List.length_nil, List.length_cons, Bool.false_and, Bool.and_false, Bool.true_and, Bool.and_true, Bool.not_true, Bool.not_false, Bool.false_eq_true, if_true, if_false, reduceIte, Option.map_some, Option.map_none, Option.bind_some, Option.bind_none, D.seals, D.isB, l1, l2, frz, frzA, oAppend, oPop, oPopAt, oExtend, mTup, mLst, Nat.zero_le, argsVL, ioC, seqOf, okSeq, unlS, unlock, unlO, unlI, derefB, D.truth, e_bAsg, e_stN, e_stT, e_stNil, e_stCons, kAsgS, kCn]
theorem sl_take (xs : List Str) (n : Nat) : dSl01 (.lst (xs.map D.str)) (.int (n : Int)) = some (true, .lst ((xs.take n).map D.str)) := by
  show some (true, D.lst (J.cutD (xs.map D.str) none (some (n : Int)))) = _
  rw [cut_to, ← List.map_take]
theorem add_lsts {xs ys : List Str} (h : xs.length + ys.length ≤ 1000) : dAdd (.lst (xs.map D.str)) (.lst (ys.map D.str)) = some (true, .lst ((xs ++ ys).map D.str)) := by
  have e : (xs.map D.str).length + (ys.map D.str).length ≤ sizeLine := by
    rw [List.length_map, List.length_map]
    show xs.length + ys.length ≤ 16777216
    omega
  show (if (xs.map D.str).length + (ys.map D.str).length ≤ sizeLine then some (true, D.lst (xs.map D.str ++ ys.map D.str)) else none) = _
  rw [if_pos e, List.map_append]
def u2e : SE := sOp (l2 dAdd) [.p 3, .e (sOp (l2 dSl01) [.p 3, .e (sCallI [false] (M__law_draw) 1 [.e (sC (.int 3))])])]
def u2 : SS := bSet 4 (sCallI [true] (M__law_shuffled) 1 [.e u2e])
theorem ne31 : ((3 : Nat) != 1) = true := rfl
theorem u2e_ok {n : Nat} {dl dl2 : D} {u : J.Env} (few : xs.length ≤ 5) (e1 : M__law_draw [dl, .int 3] = .ok (false, .int (n : Int)) dl2) : u2e (.lent sc :: .own dl :: t2 :: .own (.lst (xs.map D.str)) :: u) = .ok (true, .lst ((xs ++ xs.take n).map D.str)) (.lent sc :: .own dl2 :: t2 :: .own (.lst (xs.map D.str)) :: u) := by
  have ha : dAdd (.lst (xs.map D.str)) (.lst ((xs.take n).map D.str)) = some (true, .lst ((xs ++ xs.take n).map D.str)) := add_lsts (by rw [List.length_take]; omega)
  unfold u2e
  simp only [e1, sl_take, ha, apart, List.all_nil, List.all_cons, e_bok, e_bexc, e_bno, e_tok, e_texc, e_tno, e_snx, e_srt, e_sbk, e_sct, e_sexc, e_sno, e_getP, e_evE, e_evP, e_evN, e_evC, e_derN, e_derC, e_derBC, e_der, e_derP, e_sArgs, e_sOp, e_sDisp, e_sVar, e_mvVar, e_sC, e_cVal, e_cAnd, e_cOr, e_cNot, e_cTru, e_sAnd, e_sOr, e_sNot, e_sIf, e_bNil, e_bCons, e_bIf, e_bSet, e_bExpr, e_bRet, e_bRetN, e_bPass, e_stS, e_mutS, e_sMut, e_bPar, e_sCallV, e_sCallI, e_itP, e_itAP, e_itAE, e_itSeq, e_itEnum, e_itRng1, e_itRng2, e_oNo, e_oVal, e_oOwn, e_oIo, e_bFor, e_sComp, e_sDeal, e_cYes, kGet, kOpt, kLis, kE, kP, kAs1, kAs, kDer, kOp, kDisp, kVar, kMv, kVal, kAndT, kOrT, kNotT, kTru, kAndE, kOrE, kNotE, kIfE, kIfS, kNx, kSetS, kExp, kSt, kMut, kMut3, kMut2, kMut1, kMutA, kMut0, kPar2, kPar1, kPar0, kFn, kFnO, kCall, kIo, kIoO, kCallI, kCallI0, kItP, kItE, kSeq, kEnum, kForB, kComp1, kComp, kDeal2, kDeal1, kDeal0, List.getElem?_cons_succ, List.getElem?_cons_zero, List.set_cons_zero, List.set_cons_succ, List.length_nil, List.length_cons, Bool.false_and, Bool.and_false, Bool.true_and, Bool.and_true, Bool.not_true, Bool.not_false, Bool.false_eq_true, if_true, if_false, reduceIte, Option.map_some, Option.map_none, Option.bind_some, Option.bind_none, D.seals, D.isB, l1, l2, frz, frzA, oAppend, oPop, oPopAt, oExtend, mTup, mLst, Nat.zero_le, argsVL, ioC, seqOf, okSeq, unlS, unlock, unlO, unlI, derefB, D.truth, e_bAsg, e_stN, e_stT, e_stNil, e_stCons, kAsgS, kCn]
theorem callI1_e {M : List D → RF} {d0 d1 d2 : D} {l : List D} {f : SE} {t : J.Slot} {ρ : J.Env} {r : Bool × D} (hf : f (t :: .own d0 :: ρ) = .ok (true, .lst l) (t :: .own d1 :: ρ)) (e : M [d1, .lst l] = .ok r d2) : sCallI [true] M 1 [.e f] (t :: .own d0 :: ρ) = .ok r (t :: .own d2 :: ρ) := by
  simp only [hf, e, apart, List.all_nil, List.all_cons, e_bok, e_bexc, e_bno, e_tok, e_texc, e_tno, e_snx, e_srt, e_sbk, e_sct, e_sexc, e_sno, e_getP, e_evE, e_evP, e_evN, e_evC, e_derN, e_derC, e_derBC, e_der, e_derP, e_sArgs, e_sOp, e_sDisp, e_sVar, e_mvVar, e_sC, e_cVal, e_cAnd, e_cOr, e_cNot, e_cTru, e_sAnd, e_sOr, e_sNot, e_sIf, e_bNil, e_bCons, e_bIf, e_bSet, e_bExpr, e_bRet, e_bRetN, e_bPass, e_stS, e_mutS, e_sMut, e_bPar, e_sCallV, e_sCallI, e_itP, e_itAP, e_itAE, e_itSeq, e_itEnum, e_itRng1, e_itRng2, e_oNo, e_oVal, e_oOwn, e_oIo, e_bFor, e_sComp, e_sDeal, e_cYes, kGet, kOpt, kLis, kE, kP, kAs1, kAs, kDer, kOp, kDisp, kVar, kMv, kVal, kAndT, kOrT, kNotT, kTru, kAndE, kOrE, kNotE, kIfE, kIfS, kNx, kSetS, kExp, kSt, kMut, kMut3, kMut2, kMut1, kMutA, kMut0, kPar2, kPar1, kPar0, kFn, kFnO, kCall, kIo, kIoO, kCallI, kCallI0, kItP, kItE, kSeq, kEnum, kForB, kComp1, kComp, kDeal2, kDeal1, kDeal0, List.getElem?_cons_succ, List.getElem?_cons_zero, List.set_cons_zero, List.set_cons_succ, List.length_nil, List.length_cons, Bool.false_and, Bool.and_false, Bool.true_and, Bool.and_true, Bool.not_true, Bool.not_false, Bool.false_eq_true, if_true, if_false, reduceIte, Option.map_some, Option.map_none, Option.bind_some, Option.bind_none, D.seals, D.isB, l1, l2, frz, frzA, oAppend, oPop, oPopAt, oExtend, mTup, mLst, Nat.zero_le, argsVL, ioC, seqOf, okSeq, unlS, unlock, unlO, unlI, derefB, D.truth, e_bAsg, e_stN, e_stT, e_stNil, e_stCons, kAsgS, kCn]
theorem u2_ok (g : GD gs s) (few : xs.length ≤ 5) (h4 : t4.open = true) : ∃ gs' s', ∃ ys : List Str, u2 (TS sc (.deal gs s) t2 (.own (.lst (xs.map D.str))) t4 t5 t6 t7 t8 t9) = .nx (TS sc (.deal gs' s') t2 (.own (.lst (xs.map D.str))) (.own (.lst (ys.map D.str))) t5 t6 t7 t8 t9) ∧ GD gs' s' ∧ (∀ x, x ∈ ys ↔ x ∈ xs) ∧ ys.length ≤ 10 := by
  obtain ⟨r, g1, s1, e1, d1, r0, r1⟩ := draw_ok g (m := 3) (by omega) (by omega)
  obtain ⟨n, rfl, hn⟩ := nat_of r0 r1
  have hlen : (xs ++ xs.take n).length ≤ 10 := by rw [List.length_append, List.length_take]; omega
  obtain ⟨g2, s2, ys, e2, d2, pm⟩ := shuffled_strs (xs := xs ++ xs.take n) d1 (by omega)
  refine ⟨g2, s2, ys, ?_, d2, fun x => ?_, by rw [pm.length_eq]; exact hlen⟩
  · have hc := callI1_e (M := M__law_shuffled) (l := (xs ++ xs.take n).map D.str) (u2e_ok (sc := sc) (t2 := t2) (u := [t4, t5, t6, t7, t8, t9, .no, .no]) few (nmD e1)) e2
    unfold u2
    rw [e_bSet, hc, e_tok]
    simp only [h4, e_bok, e_bexc, e_bno, e_tok, e_texc, e_tno, e_snx, e_srt, e_sbk, e_sct, e_sexc, e_sno, e_getP, e_evE, e_evP, e_evN, e_evC, e_derN, e_derC, e_derBC, e_der, e_derP, e_sArgs, e_sOp, e_sDisp, e_sVar, e_mvVar, e_sC, e_cVal, e_cAnd, e_cOr, e_cNot, e_cTru, e_sAnd, e_sOr, e_sNot, e_sIf, e_bNil, e_bCons, e_bIf, e_bSet, e_bExpr, e_bRet, e_bRetN, e_bPass, e_stS, e_mutS, e_sMut, e_bPar, e_sCallV, e_sCallI, e_itP, e_itAP, e_itAE, e_itSeq, e_itEnum, e_itRng1, e_itRng2, e_oNo, e_oVal, e_oOwn, e_oIo, e_bFor, e_sComp, e_sDeal, e_cYes, kGet, kOpt, kLis, kE, kP, kAs1, kAs, kDer, kOp, kDisp, kVar, kMv, kVal, kAndT, kOrT, kNotT, kTru, kAndE, kOrE, kNotE, kIfE, kIfS, kNx, kSetS, kExp, kSt, kMut, kMut3, kMut2, kMut1, kMutA, kMut0, kPar2, kPar1, kPar0, kFn, kFnO, kCall, kIo, kIoO, kCallI, kCallI0, kItP, kItE, kSeq, kEnum, kForB, kComp1, kComp, kDeal2, kDeal1, kDeal0, List.getElem?_cons_succ, List.getElem?_cons_zero, List.set_cons_zero, List.set_cons_succ, List.length_nil, List.length_cons, Bool.false_and, Bool.and_false, Bool.true_and, Bool.and_true, Bool.not_true, Bool.not_false, Bool.false_eq_true, if_true, if_false, reduceIte, Option.map_some, Option.map_none, Option.bind_some, Option.bind_none, D.seals, D.isB, l1, l2, frz, frzA, oAppend, oPop, oPopAt, oExtend, mTup, mLst, Nat.zero_le, argsVL, ioC, seqOf, okSeq, unlS, unlock, unlO, unlI, derefB, D.truth, e_bAsg, e_stN, e_stT, e_stNil, e_stCons, kAsgS, kCn]
  · rw [pm.mem_iff, List.mem_append]
    exact ⟨fun h => h.elim id fun h => List.mem_of_mem_take h, .inl⟩
def u3 : SS := bSet 5 (sIf (cVal (sOp (l2 dEq) [.e (sCallI [false] (M__law_draw) 1 [.e (sC (.int 2))]), .e (sC (.int 0))])) (sOp (l1 dTuple) [.p 4]) (sOp (l1 dList) [.p 4]))
/-- what the slot of the given names is -/
inductive Giv : J.Slot → D → List Str → Prop
  | tup (ys : List Str) : Giv (.val (.tup (ys.map D.str))) (.tup (ys.map D.str)) ys
  | lst (ys : List Str) : Giv (.own (.lst (ys.map D.str))) (.lst (ys.map D.str)) ys
theorem Giv.opn {t : J.Slot} {d : D} {ys : List Str} (h : Giv t d ys) : t.open = true := by cases h <;> rfl
theorem sset_of {ys : List Str} (h : ys.length < 64) : ((D.strs (ys.map D.str)).bind fun xs => if xs.length < 64 then some (true, D.lst ((sset xs).map D.str)) else none) = some (true, .lst ((sset ys).map D.str)) := by
  rw [J.strs_map, Option.bind_some, if_pos h]
theorem u3_ok (g : GD gs s) (h : ys.length ≤ 10) (h5 : t5.open = true) : ∃ gs' s' t d, u3 (TS sc (.deal gs s) t2 t3 (.own (.lst (ys.map D.str))) t5 t6 t7 t8 t9) = .nx (TS sc (.deal gs' s') t2 t3 (.own (.lst (ys.map D.str))) t t6 t7 t8 t9) ∧ GD gs' s' ∧ Giv t d ys := by
  obtain ⟨r, g1, s1, e1, d1, r0, r1⟩ := draw_ok g (m := 2) (by omega) (by omega)
  have e1 := nmD e1
  have ht : dTuple (.lst (ys.map D.str)) = some (false, .tup (ys.map D.str)) := rfl
  have hl : dList (.lst (ys.map D.str)) = some (true, .lst (ys.map D.str)) := rfl
  by_cases z : r = 0
  · subst z
    refine ⟨g1, s1, .val (.tup (ys.map D.str)), .tup (ys.map D.str), ?_, d1, .tup _⟩
    unfold u3
    simp only [e1, ht, h5, eq_ints, beq_self_eq_true, apart, List.all_nil, List.all_cons, e_bok, e_bexc, e_bno, e_tok, e_texc, e_tno, e_snx, e_srt, e_sbk, e_sct, e_sexc, e_sno, e_getP, e_evE, e_evP, e_evN, e_evC, e_derN, e_derC, e_derBC, e_der, e_derP, e_sArgs, e_sOp, e_sDisp, e_sVar, e_mvVar, e_sC, e_cVal, e_cAnd, e_cOr, e_cNot, e_cTru, e_sAnd, e_sOr, e_sNot, e_sIf, e_bNil, e_bCons, e_bIf, e_bSet, e_bExpr, e_bRet, e_bRetN, e_bPass, e_stS, e_mutS, e_sMut, e_bPar, e_sCallV, e_sCallI, e_itP, e_itAP, e_itAE, e_itSeq, e_itEnum, e_itRng1, e_itRng2, e_oNo, e_oVal, e_oOwn, e_oIo, e_bFor, e_sComp, e_sDeal, e_cYes, kGet, kOpt, kLis, kE, kP, kAs1, kAs, kDer, kOp, kDisp, kVar, kMv, kVal, kAndT, kOrT, kNotT, kTru, kAndE, kOrE, kNotE, kIfE, kIfS, kNx, kSetS, kExp, kSt, kMut, kMut3, kMut2, kMut1, kMutA, kMut0, kPar2, kPar1, kPar0, kFn, kFnO, kCall, kIo, kIoO, kCallI, kCallI0, kItP, kItE, kSeq, kEnum, kForB, kComp1, kComp, kDeal2, kDeal1, kDeal0, List.getElem?_cons_succ, List.getElem?_cons_zero, List.set_cons_zero, List.set_cons_succ, List.length_nil, List.length_cons, Bool.false_and, Bool.and_false, Bool.true_and, Bool.and_true, Bool.not_true, Bool.not_false, Bool.false_eq_true, if_true, if_false, reduceIte, Option.map_some, Option.map_none, Option.bind_some, Option.bind_none, D.seals, D.isB, l1, l2, frz, frzA, oAppend, oPop, oPopAt, oExtend, mTup, mLst, Nat.zero_le, argsVL, ioC, seqOf, okSeq, unlS, unlock, unlO, unlI, derefB, D.truth, e_bAsg, e_stN, e_stT, e_stNil, e_stCons, kAsgS, kCn]
  · have hz : (r == 0) = false := by simpa using z
    refine ⟨g1, s1, .own (.lst (ys.map D.str)), .lst (ys.map D.str), ?_, d1, .lst _⟩
    unfold u3
    simp only [e1, hl, h5, eq_ints, hz, apart, List.all_nil, List.all_cons, e_bok, e_bexc, e_bno, e_tok, e_texc, e_tno, e_snx, e_srt, e_sbk, e_sct, e_sexc, e_sno, e_getP, e_evE, e_evP, e_evN, e_evC, e_derN, e_derC, e_derBC, e_der, e_derP, e_sArgs, e_sOp, e_sDisp, e_sVar, e_mvVar, e_sC, e_cVal, e_cAnd, e_cOr, e_cNot, e_cTru, e_sAnd, e_sOr, e_sNot, e_sIf, e_bNil, e_bCons, e_bIf, e_bSet, e_bExpr, e_bRet, e_bRetN, e_bPass, e_stS, e_mutS, e_sMut, e_bPar, e_sCallV, e_sCallI, e_itP, e_itAP, e_itAE, e_itSeq, e_itEnum, e_itRng1, e_itRng2, e_oNo, e_oVal, e_oOwn, e_oIo, e_bFor, e_sComp, e_sDeal, e_cYes, kGet, kOpt, kLis, kE, kP, kAs1, kAs, kDer, kOp, kDisp, kVar, kMv, kVal, kAndT, kOrT, kNotT, kTru, kAndE, kOrE, kNotE, kIfE, kIfS, kNx, kSetS, kExp, kSt, kMut, kMut3, kMut2, kMut1, kMutA, kMut0, kPar2, kPar1, kPar0, kFn, kFnO, kCall, kIo, kIoO, kCallI, kCallI0, kItP, kItE, kSeq, kEnum, kForB, kComp1, kComp, kDeal2, kDeal1, kDeal0, List.getElem?_cons_succ, List.getElem?_cons_zero, List.set_cons_zero, List.set_cons_succ, List.length_nil, List.length_cons, Bool.false_and, Bool.and_false, Bool.true_and, Bool.and_true, Bool.not_true, Bool.not_false, Bool.false_eq_true, if_true, if_false, reduceIte, Option.map_some, Option.map_none, Option.bind_some, Option.bind_none, D.seals, D.isB, l1, l2, frz, frzA, oAppend, oPop, oPopAt, oExtend, mTup, mLst, Nat.zero_le, argsVL, ioC, seqOf, okSeq, unlS, unlock, unlO, unlI, derefB, D.truth, e_bAsg, e_stN, e_stT, e_stNil, e_stCons, kAsgS, kCn]
def u4 : SS := bSet 6 (sCallV [true] (M_kinds) [.p 5])
theorem u4_ok {t : J.Slot} {d dl : D} (hg : Giv t d ys) (hm : ∀ x, x ∈ ys ↔ x ∈ xs) (few : xs.length ≤ 5) (hy : ys.length ≤ 10) (h6 : t6.open = true) : u4 (TS sc dl t2 t3 t4 t t6 t7 t8 t9) = .nx (TS sc dl t2 t3 t4 t (.val (.tup (kindsD (sset xs)))) t7 t8 t9) := by
  have hle := sset_len xs
  have hs : dSSet d = some (true, .lst ((sset xs).map D.str)) := by
    rw [← sset_mem_eq hm]
    cases hg <;> exact sset_of (by omega)
  have hk := kinds_run (a := d) (xs := []) (ys := sset xs) hs (by omega)
  cases hg
  · unfold u4
    simp only [hk, h6, e_bok, e_bexc, e_bno, e_tok, e_texc, e_tno, e_snx, e_srt, e_sbk, e_sct, e_sexc, e_sno, e_getP, e_evE, e_evP, e_evN, e_evC, e_derN, e_derC, e_derBC, e_der, e_derP, e_sArgs, e_sOp, e_sDisp, e_sVar, e_mvVar, e_sC, e_cVal, e_cAnd, e_cOr, e_cNot, e_cTru, e_sAnd, e_sOr, e_sNot, e_sIf, e_bNil, e_bCons, e_bIf, e_bSet, e_bExpr, e_bRet, e_bRetN, e_bPass, e_stS, e_mutS, e_sMut, e_bPar, e_sCallV, e_sCallI, e_itP, e_itAP, e_itAE, e_itSeq, e_itEnum, e_itRng1, e_itRng2, e_oNo, e_oVal, e_oOwn, e_oIo, e_bFor, e_sComp, e_sDeal, e_cYes, kGet, kOpt, kLis, kE, kP, kAs1, kAs, kDer, kOp, kDisp, kVar, kMv, kVal, kAndT, kOrT, kNotT, kTru, kAndE, kOrE, kNotE, kIfE, kIfS, kNx, kSetS, kExp, kSt, kMut, kMut3, kMut2, kMut1, kMutA, kMut0, kPar2, kPar1, kPar0, kFn, kFnO, kCall, kIo, kIoO, kCallI, kCallI0, kItP, kItE, kSeq, kEnum, kForB, kComp1, kComp, kDeal2, kDeal1, kDeal0, List.getElem?_cons_succ, List.getElem?_cons_zero, List.set_cons_zero, List.set_cons_succ, List.length_nil, List.length_cons, Bool.false_and, Bool.and_false, Bool.true_and, Bool.and_true, Bool.not_true, Bool.not_false, Bool.false_eq_true, if_true, if_false, reduceIte, Option.map_some, Option.map_none, Option.bind_some, Option.bind_none, D.seals, D.isB, l1, l2, frz, frzA, oAppend, oPop, oPopAt, oExtend, mTup, mLst, Nat.zero_le, argsVL, ioC, seqOf, okSeq, unlS, unlock, unlO, unlI, derefB, D.truth, e_bAsg, e_stN, e_stT, e_stNil, e_stCons, kAsgS, kCn]
  · unfold u4
    simp only [hk, h6, e_bok, e_bexc, e_bno, e_tok, e_texc, e_tno, e_snx, e_srt, e_sbk, e_sct, e_sexc, e_sno, e_getP, e_evE, e_evP, e_evN, e_evC, e_derN, e_derC, e_derBC, e_der, e_derP, e_sArgs, e_sOp, e_sDisp, e_sVar, e_mvVar, e_sC, e_cVal, e_cAnd, e_cOr, e_cNot, e_cTru, e_sAnd, e_sOr, e_sNot, e_sIf, e_bNil, e_bCons, e_bIf, e_bSet, e_bExpr, e_bRet, e_bRetN, e_bPass, e_stS, e_mutS, e_sMut, e_bPar, e_sCallV, e_sCallI, e_itP, e_itAP, e_itAE, e_itSeq, e_itEnum, e_itRng1, e_itRng2, e_oNo, e_oVal, e_oOwn, e_oIo, e_bFor, e_sComp, e_sDeal, e_cYes, kGet, kOpt, kLis, kE, kP, kAs1, kAs, kDer, kOp, kDisp, kVar, kMv, kVal, kAndT, kOrT, kNotT, kTru, kAndE, kOrE, kNotE, kIfE, kIfS, kNx, kSetS, kExp, kSt, kMut, kMut3, kMut2, kMut1, kMutA, kMut0, kPar2, kPar1, kPar0, kFn, kFnO, kCall, kIo, kIoO, kCallI, kCallI0, kItP, kItE, kSeq, kEnum, kForB, kComp1, kComp, kDeal2, kDeal1, kDeal0, List.getElem?_cons_succ, List.getElem?_cons_zero, List.set_cons_zero, List.set_cons_succ, List.length_nil, List.length_cons, Bool.false_and, Bool.and_false, Bool.true_and, Bool.and_true, Bool.not_true, Bool.not_false, Bool.false_eq_true, if_true, if_false, reduceIte, Option.map_some, Option.map_none, Option.bind_some, Option.bind_none, D.seals, D.isB, l1, l2, frz, frzA, oAppend, oPop, oPopAt, oExtend, mTup, mLst, Nat.zero_le, argsVL, ioC, seqOf, okSeq, unlS, unlock, unlO, unlI, derefB, D.truth, e_bAsg, e_stN, e_stT, e_stNil, e_stCons, kAsgS, kCn]
end


/-! ### all kinds, as data -/
def ks (ys : List Str) : List (List Str) := (List.range (2 ^ ys.length)).map fun k => kbits ((0 : Int) + (k : Nat)) 0 ys
theorem kindsD_ks (ys : List Str) : kindsD ys = fD (ks ys) := by
  unfold kindsD fD ks rng
  rw [List.map_map, List.map_map]
  rfl
theorem kbits_sub (k : Int) : ∀ (i : Nat) (p : List Str), (kbits k i p).Sublist p
  | i, [] => by rw [kbits]; exact List.Sublist.refl _
  | i, x :: r => by
    have ih := kbits_sub k (i + 1) r
    rw [kbits]
    split
    · exact ih.cons₂ x
    · exact ih.cons x
theorem ks_gw {ys : List Str} (h : ∀ x ∈ ys, gw x = true) : ∀ k ∈ ks ys, ∀ x ∈ k, gw x = true := fun k hk x hx => by
  obtain ⟨i, _, rfl⟩ := List.mem_map.mp hk
  exact h x ((kbits_sub _ _ _).subset hx)
theorem ks_len {ys : List Str} (h : ys.length ≤ 5) : ∀ k ∈ ks ys, k.length ≤ 5 := fun k hk => by
  obtain ⟨i, _, rfl⟩ := List.mem_map.mp hk
  exact Nat.le_trans (kbits_sub _ _ _).length_le h
theorem ks_many {ys : List Str} (h : ys.length ≤ 5) : (ks ys).length ≤ 32 := by
  unfold ks
  rw [List.length_map, List.length_range]
  exact Nat.pow_le_pow_right (n := 2) (by decide) h
theorem Good.sgw {xs : List Str} (go : Good xs) : ∀ x ∈ sset xs, K02.gw x = true := fun x hx => go.gw x (sset_mem.mp hx)
theorem Good.sfew {xs : List Str} (go : Good xs) : (sset xs).length ≤ 5 := Nat.le_trans (sset_len xs) go.few
section
variable {sc dl : D} {t2 t3 t4 t5 t6 t7 t8 t9 : J.Slot} {xs ys : List Str}
def u5 : SS := bIf (cOr (cVal (sOp (l2 dNe) [.e (sOp (l1 dRepr) [.p 6]), .e (sOp (l1 dRepr) [.e (sOp (l1 dTuple) [.e (sCallV [true] (M__law_kinds) [.p 3])])])])) (cVal (sOp (l2 dNe) [.e (sOp (l1 dList) [.p 5]), .p 4]))) (bRet (sC (.bl false))) bNil
theorem u5_gen {l3 kd l4 : List D} {w : Str} {t : J.Slot} {d : D} (hg : Giv t d ys) (k1 : M__law_kinds [.lst l3] = .ok (true, .lst kd) .non) (k3 : dRepr (.tup kd) = some (false, .str w)) (k4 : dNe (.str w) (.str w) = some (false, .bl false)) (k5 : dList d = some (true, .lst l4)) (k6 : dNe (.lst l4) (.lst l4) = some (false, .bl false)) :
    u5 (TS sc dl t2 (.own (.lst l3)) (.own (.lst l4)) t (.val (.tup kd)) t7 t8 t9) = .nx (TS sc dl t2 (.own (.lst l3)) (.own (.lst l4)) t (.val (.tup kd)) t7 t8 t9) := by
  have k2 : dTuple (.lst kd) = some (false, .tup kd) := rfl
  cases hg
  · unfold u5
    simp only [k1, k2, k3, k4, k5, k6, e_bok, e_bexc, e_bno, e_tok, e_texc, e_tno, e_snx, e_srt, e_sbk, e_sct, e_sexc, e_sno, e_getP, e_evE, e_evP, e_evN, e_evC, e_derN, e_derC, e_derBC, e_der, e_derP, e_sArgs, e_sOp, e_sDisp, e_sVar, e_mvVar, e_sC, e_cVal, e_cAnd, e_cOr, e_cNot, e_cTru, e_sAnd, e_sOr, e_sNot, e_sIf, e_bNil, e_bCons, e_bIf, e_bSet, e_bExpr, e_bRet, e_bRetN, e_bPass, e_stS, e_mutS, e_sMut, e_bPar, e_sCallV, e_sCallI, e_itP, e_itAP, e_itAE, e_itSeq, e_itEnum, e_itRng1, e_itRng2, e_oNo, e_oVal, e_oOwn, e_oIo, e_bFor, e_sComp, e_sDeal, e_cYes, kGet, kOpt, kLis, kE, kP, kAs1, kAs, kDer, kOp, kDisp, kVar, kMv, kVal, kAndT, kOrT, kNotT, kTru, kAndE, kOrE, kNotE, kIfE, kIfS, kNx, kSetS, kExp, kSt, kMut, kMut3, kMut2, kMut1, kMutA, kMut0, kPar2, kPar1, kPar0, kFn, kFnO, kCall, kIo, kIoO, kCallI, kCallI0, kItP, kItE, kSeq, kEnum, kForB, kComp1, kComp, kDeal2, kDeal1, kDeal0, List.getElem?_cons_succ, List.getElem?_cons_zero, List.set_cons_zero, List.set_cons_succ, List.length_nil, List.length_cons, Bool.false_and, Bool.and_false, Bool.true_and, Bool.and_true, Bool.not_true, Bool.not_false, Bool.false_eq_true, if_true, if_false, reduceIte, Option.map_some, Option.map_none, Option.bind_some, Option.bind_none, D.seals, D.isB, l1, l2, frz, frzA, oAppend, oPop, oPopAt, oExtend, mTup, mLst, Nat.zero_le, argsVL, ioC, seqOf, okSeq, unlS, unlock, unlO, unlI, derefB, D.truth, e_bAsg, e_stN, e_stT, e_stNil, e_stCons, kAsgS, kCn]
  · unfold u5
    simp only [k1, k2, k3, k4, k5, k6, e_bok, e_bexc, e_bno, e_tok, e_texc, e_tno, e_snx, e_srt, e_sbk, e_sct, e_sexc, e_sno, e_getP, e_evE, e_evP, e_evN, e_evC, e_derN, e_derC, e_derBC, e_der, e_derP, e_sArgs, e_sOp, e_sDisp, e_sVar, e_mvVar, e_sC, e_cVal, e_cAnd, e_cOr, e_cNot, e_cTru, e_sAnd, e_sOr, e_sNot, e_sIf, e_bNil, e_bCons, e_bIf, e_bSet, e_bExpr, e_bRet, e_bRetN, e_bPass, e_stS, e_mutS, e_sMut, e_bPar, e_sCallV, e_sCallI, e_itP, e_itAP, e_itAE, e_itSeq, e_itEnum, e_itRng1, e_itRng2, e_oNo, e_oVal, e_oOwn, e_oIo, e_bFor, e_sComp, e_sDeal, e_cYes, kGet, kOpt, kLis, kE, kP, kAs1, kAs, kDer, kOp, kDisp, kVar, kMv, kVal, kAndT, kOrT, kNotT, kTru, kAndE, kOrE, kNotE, kIfE, kIfS, kNx, kSetS, kExp, kSt, kMut, kMut3, kMut2, kMut1, kMutA, kMut0, kPar2, kPar1, kPar0, kFn, kFnO, kCall, kIo, kIoO, kCallI, kCallI0, kItP, kItE, kSeq, kEnum, kForB, kComp1, kComp, kDeal2, kDeal1, kDeal0, List.getElem?_cons_succ, List.getElem?_cons_zero, List.set_cons_zero, List.set_cons_succ, List.length_nil, List.length_cons, Bool.false_and, Bool.and_false, Bool.true_and, Bool.and_true, Bool.not_true, Bool.not_false, Bool.false_eq_true, if_true, if_false, reduceIte, Option.map_some, Option.map_none, Option.bind_some, Option.bind_none, D.seals, D.isB, l1, l2, frz, frzA, oAppend, oPop, oPopAt, oExtend, mTup, mLst, Nat.zero_le, argsVL, ioC, seqOf, okSeq, unlS, unlock, unlO, unlI, derefB, D.truth, e_bAsg, e_stN, e_stT, e_stNil, e_stCons, kAsgS, kCn]
theorem u5_ok {t : J.Slot} {d : D} (hg : Giv t d ys) (hm : ∀ x, x ∈ ys ↔ x ∈ xs) (go : Good xs) :
    u5 (TS sc dl t2 (.own (.lst (xs.map D.str))) (.own (.lst (ys.map D.str))) t (.val (.tup (kindsD (sset xs)))) t7 t8 t9) = .nx (TS sc dl t2 (.own (.lst (xs.map D.str))) (.own (.lst (ys.map D.str))) t (.val (.tup (kindsD (sset xs)))) t7 t8 t9) := by
  have few := go.few
  have k1 : M__law_kinds [.lst (xs.map D.str)] = .ok (true, .lst (kindsD (sset xs))) .non := by
    rw [law_kinds_run (by omega), kinds_same]
  obtain ⟨w, k3, hw⟩ := rep_f (ks_gw go.sgw) (ks_many go.sfew) (ks_len go.sfew)
  rw [← kindsD_ks] at k3
  have k6 : dNe (.lst (ys.map D.str)) (.lst (ys.map D.str)) = some (false, .bl false) := ne_lst fun x hx => go.gw x ((hm x).mp hx)
  have k5 : dList d = some (true, .lst (ys.map D.str)) := by cases hg <;> rfl
  exact u5_gen hg k1 k3 (ne_str hw) k5 k6
/-! the known names -/
def u6e : SE := sComp (itSeq (.p 3)) [10] (J.stN 10) cYes (sOp (l1 dStr) [.p 10])
def u6 : SS := bSet 7 (sOp (l1 dSorted) [.e u6e])
theorem u6e_ok (few : xs.length ≤ 5) : u6e (TS sc dl t2 (.own (.lst (xs.map D.str))) t4 t5 t6 t7 t8 t9) = .ok (true, .lst (xs.map D.str)) (TS sc dl t2 (.own (.lst (xs.map D.str))) t4 t5 t6 t7 t8 t9) := by
  have hi : itSeq (.p 3) (TS sc dl t2 (.own (.lst (xs.map D.str))) t4 t5 t6 t7 t8 t9) = .ok (xs.map D.str, .own 3) (TS sc dl t2 (.lown (.lst (xs.map D.str))) t4 t5 t6 t7 t8 t9) := rfl
  have hL := loopC_map (own := [10]) (st := J.stN 10) (c := cYes) (el := sOp (l1 dStr) [.p 10]) (ρ := TS sc dl t2 (.lown (.lst (xs.map D.str))) t4 t5 t6 t7 t8 t9) (f := id) (xs.map D.str) (fun d hd => by
    obtain ⟨x, _, rfl⟩ := List.mem_map.mp hd
    have hs : dStr (.str x) = some (false, .str x) := rfl
    refine ⟨[.lent sc, .own dl, t2, .lown (.lst (xs.map D.str)), t4, t5, t6, t7, t8, t9, .val (.str x), .no], _, [.lent sc, .own dl, t2, .lown (.lst (xs.map D.str)), t4, t5, t6, t7, t8, t9, .val (.str x), .no], rfl, rfl, ?_, rfl⟩
    simp only [hs, id, e_bok, e_bexc, e_bno, e_tok, e_texc, e_tno, e_snx, e_srt, e_sbk, e_sct, e_sexc, e_sno, e_getP, e_evE, e_evP, e_evN, e_evC, e_derN, e_derC, e_derBC, e_der, e_derP, e_sArgs, e_sOp, e_sDisp, e_sVar, e_mvVar, e_sC, e_cVal, e_cAnd, e_cOr, e_cNot, e_cTru, e_sAnd, e_sOr, e_sNot, e_sIf, e_bNil, e_bCons, e_bIf, e_bSet, e_bExpr, e_bRet, e_bRetN, e_bPass, e_stS, e_mutS, e_sMut, e_bPar, e_sCallV, e_sCallI, e_itP, e_itAP, e_itAE, e_itSeq, e_itEnum, e_itRng1, e_itRng2, e_oNo, e_oVal, e_oOwn, e_oIo, e_bFor, e_sComp, e_sDeal, e_cYes, kGet, kOpt, kLis, kE, kP, kAs1, kAs, kDer, kOp, kDisp, kVar, kMv, kVal, kAndT, kOrT, kNotT, kTru, kAndE, kOrE, kNotE, kIfE, kIfS, kNx, kSetS, kExp, kSt, kMut, kMut3, kMut2, kMut1, kMutA, kMut0, kPar2, kPar1, kPar0, kFn, kFnO, kCall, kIo, kIoO, kCallI, kCallI0, kItP, kItE, kSeq, kEnum, kForB, kComp1, kComp, kDeal2, kDeal1, kDeal0, List.getElem?_cons_succ, List.getElem?_cons_zero, List.set_cons_zero, List.set_cons_succ, List.length_nil, List.length_cons, Bool.false_and, Bool.and_false, Bool.true_and, Bool.and_true, Bool.not_true, Bool.not_false, Bool.false_eq_true, if_true, if_false, reduceIte, Option.map_some, Option.map_none, Option.bind_some, Option.bind_none, D.seals, D.isB, l1, l2, frz, frzA, oAppend, oPop, oPopAt, oExtend, mTup, mLst, Nat.zero_le, argsVL, ioC, seqOf, okSeq, unlS, unlock, unlO, unlI, derefB, D.truth, e_bAsg, e_stN, e_stT, e_stNil, e_stCons, kAsgS, kCn]) []
  unfold u6e
  rw [e_sComp, hi, e_bok]
  unfold kComp
  rw [if_pos ⟨rfl, by show (xs.map D.str).length < _; rw [List.length_map]; unfold sizeLine; omega⟩]
  show kComp1 _ _ _ (loopC [10] (J.stN 10) cYes (sOp (l1 dStr) [.p 10]) (xs.map D.str) (TS sc dl t2 (.lown (.lst (xs.map D.str))) t4 t5 t6 t7 t8 t9) []) = _
  rw [hL, List.map_id]
  rfl
theorem u6_ok (few : xs.length ≤ 5) (h7 : t7.open = true) : u6 (TS sc dl t2 (.own (.lst (xs.map D.str))) t4 t5 t6 t7 t8 t9) = .nx (TS sc dl t2 (.own (.lst (xs.map D.str))) t4 t5 t6 (.own (.lst ((ssort xs).map D.str))) t8 t9) := by
  have he := u6e_ok (sc := sc) (dl := dl) (t2 := t2) (t4 := t4) (t5 := t5) (t6 := t6) (t7 := t7) (t8 := t8) (t9 := t9) few
  have hs : dSorted (.lst (xs.map D.str)) = some (true, .lst ((ssort xs).map D.str)) := by
    show (D.strs (xs.map D.str)).bind _ = _
    rw [J.strs_map, Option.bind_some, if_pos (by omega)]
  unfold u6
  simp only [he, hs, h7, e_bok, e_bexc, e_bno, e_tok, e_texc, e_tno, e_snx, e_srt, e_sbk, e_sct, e_sexc, e_sno, e_getP, e_evE, e_evP, e_evN, e_evC, e_derN, e_derC, e_derBC, e_der, e_derP, e_sArgs, e_sOp, e_sDisp, e_sVar, e_mvVar, e_sC, e_cVal, e_cAnd, e_cOr, e_cNot, e_cTru, e_sAnd, e_sOr, e_sNot, e_sIf, e_bNil, e_bCons, e_bIf, e_bSet, e_bExpr, e_bRet, e_bRetN, e_bPass, e_stS, e_mutS, e_sMut, e_bPar, e_sCallV, e_sCallI, e_itP, e_itAP, e_itAE, e_itSeq, e_itEnum, e_itRng1, e_itRng2, e_oNo, e_oVal, e_oOwn, e_oIo, e_bFor, e_sComp, e_sDeal, e_cYes, kGet, kOpt, kLis, kE, kP, kAs1, kAs, kDer, kOp, kDisp, kVar, kMv, kVal, kAndT, kOrT, kNotT, kTru, kAndE, kOrE, kNotE, kIfE, kIfS, kNx, kSetS, kExp, kSt, kMut, kMut3, kMut2, kMut1, kMutA, kMut0, kPar2, kPar1, kPar0, kFn, kFnO, kCall, kIo, kIoO, kCallI, kCallI0, kItP, kItE, kSeq, kEnum, kForB, kComp1, kComp, kDeal2, kDeal1, kDeal0, List.getElem?_cons_succ, List.getElem?_cons_zero, List.set_cons_zero, List.set_cons_succ, List.length_nil, List.length_cons, Bool.false_and, Bool.and_false, Bool.true_and, Bool.and_true, Bool.not_true, Bool.not_false, Bool.false_eq_true, if_true, if_false, reduceIte, Option.map_some, Option.map_none, Option.bind_some, Option.bind_none, D.seals, D.isB, l1, l2, frz, frzA, oAppend, oPop, oPopAt, oExtend, mTup, mLst, Nat.zero_le, argsVL, ioC, seqOf, okSeq, unlS, unlock, unlO, unlI, derefB, D.truth, e_bAsg, e_stN, e_stT, e_stNil, e_stCons, kAsgS, kCn]
/-! the kinds turned about -/
def u8 : SS := bIf (cVal (sOp (l2 dNe) [.e (sCallV [true] (M_kinds) [.e (sOp (l1 dRev) [.p 3])]), .p 6])) (bRet (sC (.bl false))) bNil
theorem u8_ok (go : Good xs) : u8 (TS sc dl t2 (.own (.lst (xs.map D.str))) t4 t5 (.val (.tup (kindsD (sset xs)))) t7 t8 t9) = .nx (TS sc dl t2 (.own (.lst (xs.map D.str))) t4 t5 (.val (.tup (kindsD (sset xs)))) t7 t8 t9) := by
  have few := go.few
  have hr : dRev (.lst (xs.map D.str)) = some (true, .lst (xs.reverse.map D.str)) := by
    show some (true, D.lst (xs.map D.str).reverse) = _
    rw [List.map_reverse]
  have hs : dSSet (.lst (xs.reverse.map D.str)) = some (true, .lst ((sset xs).map D.str)) := by
    rw [← sset_mem_eq (xs := xs.reverse) (ys := xs) fun x => List.mem_reverse]
    exact sset_of (by rw [List.length_reverse]; omega)
  have hk := kinds_run (a := .lst (xs.reverse.map D.str)) (xs := []) (ys := sset xs) hs (by have := go.sfew; omega)
  have hn := ne_f (ks_gw go.sgw)
  rw [← kindsD_ks] at hn
  unfold u8
  simp only [hr, hk, hn, e_bok, e_bexc, e_bno, e_tok, e_texc, e_tno, e_snx, e_srt, e_sbk, e_sct, e_sexc, e_sno, e_getP, e_evE, e_evP, e_evN, e_evC, e_derN, e_derC, e_derBC, e_der, e_derP, e_sArgs, e_sOp, e_sDisp, e_sVar, e_mvVar, e_sC, e_cVal, e_cAnd, e_cOr, e_cNot, e_cTru, e_sAnd, e_sOr, e_sNot, e_sIf, e_bNil, e_bCons, e_bIf, e_bSet, e_bExpr, e_bRet, e_bRetN, e_bPass, e_stS, e_mutS, e_sMut, e_bPar, e_sCallV, e_sCallI, e_itP, e_itAP, e_itAE, e_itSeq, e_itEnum, e_itRng1, e_itRng2, e_oNo, e_oVal, e_oOwn, e_oIo, e_bFor, e_sComp, e_sDeal, e_cYes, kGet, kOpt, kLis, kE, kP, kAs1, kAs, kDer, kOp, kDisp, kVar, kMv, kVal, kAndT, kOrT, kNotT, kTru, kAndE, kOrE, kNotE, kIfE, kIfS, kNx, kSetS, kExp, kSt, kMut, kMut3, kMut2, kMut1, kMutA, kMut0, kPar2, kPar1, kPar0, kFn, kFnO, kCall, kIo, kIoO, kCallI, kCallI0, kItP, kItE, kSeq, kEnum, kForB, kComp1, kComp, kDeal2, kDeal1, kDeal0, List.getElem?_cons_succ, List.getElem?_cons_zero, List.set_cons_zero, List.set_cons_succ, List.length_nil, List.length_cons, Bool.false_and, Bool.and_false, Bool.true_and, Bool.and_true, Bool.not_true, Bool.not_false, Bool.false_eq_true, if_true, if_false, reduceIte, Option.map_some, Option.map_none, Option.bind_some, Option.bind_none, D.seals, D.isB, l1, l2, frz, frzA, oAppend, oPop, oPopAt, oExtend, mTup, mLst, Nat.zero_le, argsVL, ioC, seqOf, okSeq, unlS, unlock, unlO, unlI, derefB, D.truth, e_bAsg, e_stN, e_stT, e_stNil, e_stCons, kAsgS, kCn]
end


/-! the kind by the digits of its number -/
theorem kbits_app2 (k : Nat) : ∀ (t : List Str) (i : Nat) (p : List Str), kbits k i (p ++ t) = kbits k i p ++ kbits k (i + p.length) t
  | t, i, [] => by
    show kbits k i t = kbits k i [] ++ kbits k (i + 0) t
    rw [show kbits (k : Int) i [] = [] by rw [kbits], List.nil_append, Nat.add_zero]
  | t, i, x :: r => by
    have ih := kbits_app2 k t (i + 1) r
    have e : i + (x :: r).length = i + 1 + r.length := by simp; omega
    rw [List.cons_append, kbits, kbits, ih, e]
    split <;> rfl
theorem kbits_none {k : Nat} : ∀ (t : List Str) (i : Nat), k < 2 ^ i → kbits k i t = []
  | [], i, _ => by rw [kbits]
  | x :: r, i, h => by
    have h2 : k < 2 ^ (i + 1) := Nat.lt_of_lt_of_le h (Nat.pow_le_pow_right (by decide) (by omega))
    rw [kbits, bit1, Nat.testBit_lt_two_pow h, kbits_none r (i + 1) h2]
    rfl
theorem kbits_cut {k : Nat} {p t : List Str} (h : k < 2 ^ p.length) : kbits k 0 (p ++ t) = kbits k 0 p := by
  rw [kbits_app2, Nat.zero_add, kbits_none t _ h, List.append_nil]
theorem mod_bit (k i : Nat) : (((k : Int) / 2 ^ i % 2) == 1) = (Builtin.bitAnd ((k : Int) / 2 ^ i) 1 == 1) := by
  rw [bit1, Nat.testBit_eq_decide_div_mod_eq]
  have e : ((k : Int) / 2 ^ i % 2) = ((k / 2 ^ i % 2 : Nat) : Int) := by norm_cast
  rw [e]
  by_cases z : k / 2 ^ i % 2 = 1
  · rw [z]; rfl
  · rw [decide_eq_false z]
    have : ((k / 2 ^ i % 2 : Nat) : Int) ≠ 1 := by omega
    simpa using this
section
variable {sc dl : D} {t2 t3 t4 t5 t6 t7 t8 t9 : J.Slot} {xs ys : List Str}
def bC : ST := cVal (sOp (l2 dEq) [.e (sOp (l2 dMod) [.e (sOp (l1 dInt) [.e (sOp (l2 dShr) [.p 8, .p 11])]), .e (sC (.int 2))]), .e (sC (.int 1))])
def bT : TgS := stT (stCons (J.stN 11) (stCons (J.stN 10) stNil))
def bE : SE := sComp (itEnum (.p 7)) [11, 10] bT bC (sVar 10)
abbrev US (sc dl : D) (t2 t3 t4 t5 t6 t7 t8 t9 t10 t11 : J.Slot) : J.Env := [.lent sc, .own dl, t2, t3, t4, t5, t6, t7, t8, t9, t10, t11]
theorem bC_ok {k i : Nat} {d : D} : bC (US sc dl t2 t3 t4 t5 t6 t7 (.val (.int (k : Int))) t9 (.val d) (.val (.int (i : Int)))) = .ok (Builtin.bitAnd ((k : Int) / 2 ^ i) 1 == 1) (US sc dl t2 t3 t4 t5 t6 t7 (.val (.int (k : Int))) t9 (.val d) (.val (.int (i : Int)))) := by
  have h1 : ∀ x : Int, dInt (.int x) = some (false, .int x) := fun _ => rfl
  have h2 : ∀ x : Int, dMod (.int x) (.int 2) = some (false, .int (x % 2)) := fun x => mod_ok (by omega)
  unfold bC
  simp only [shr_nat, h1, h2, eq_ints, mod_bit, e_bok, e_bexc, e_bno, e_tok, e_texc, e_tno, e_snx, e_srt, e_sbk, e_sct, e_sexc, e_sno, e_getP, e_evE, e_evP, e_evN, e_evC, e_derN, e_derC, e_derBC, e_der, e_derP, e_sArgs, e_sOp, e_sDisp, e_sVar, e_mvVar, e_sC, e_cVal, e_cAnd, e_cOr, e_cNot, e_cTru, e_sAnd, e_sOr, e_sNot, e_sIf, e_bNil, e_bCons, e_bIf, e_bSet, e_bExpr, e_bRet, e_bRetN, e_bPass, e_stS, e_mutS, e_sMut, e_bPar, e_sCallV, e_sCallI, e_itP, e_itAP, e_itAE, e_itSeq, e_itEnum, e_itRng1, e_itRng2, e_oNo, e_oVal, e_oOwn, e_oIo, e_bFor, e_sComp, e_sDeal, e_cYes, kGet, kOpt, kLis, kE, kP, kAs1, kAs, kDer, kOp, kDisp, kVar, kMv, kVal, kAndT, kOrT, kNotT, kTru, kAndE, kOrE, kNotE, kIfE, kIfS, kNx, kSetS, kExp, kSt, kMut, kMut3, kMut2, kMut1, kMutA, kMut0, kPar2, kPar1, kPar0, kFn, kFnO, kCall, kIo, kIoO, kCallI, kCallI0, kItP, kItE, kSeq, kEnum, kForB, kComp1, kComp, kDeal2, kDeal1, kDeal0, List.getElem?_cons_succ, List.getElem?_cons_zero, List.set_cons_zero, List.set_cons_succ, List.length_nil, List.length_cons, Bool.false_and, Bool.and_false, Bool.true_and, Bool.and_true, Bool.not_true, Bool.not_false, Bool.false_eq_true, if_true, if_false, reduceIte, Option.map_some, Option.map_none, Option.bind_some, Option.bind_none, D.seals, D.isB, l1, l2, frz, frzA, oAppend, oPop, oPopAt, oExtend, mTup, mLst, Nat.zero_le, argsVL, ioC, seqOf, okSeq, unlS, unlock, unlO, unlI, derefB, D.truth, e_bAsg, e_stN, e_stT, e_stNil, e_stCons, kAsgS, kCn]
theorem bL_ok {k : Nat} : ∀ (zs : List Str) (i : Nat) (acc : List D), loopC [11, 10] bT bC (sVar 10) (enumD i (zs.map D.str)) (US sc dl t2 t3 t4 t5 t6 t7 (.val (.int (k : Int))) t9 .no .no) acc = some (acc ++ (kbits k i zs).map D.str, US sc dl t2 t3 t4 t5 t6 t7 (.val (.int (k : Int))) t9 .no .no)
  | [], i, acc => by simp [enumD, loopC, kbits]
  | x :: r, i, acc => by
    have ih := bL_ok (k := k) r (i + 1)
    have hb : blankC (US sc dl t2 t3 t4 t5 t6 t7 (.val (.int (k : Int))) t9 (.val (.str x)) (.val (.int (i : Nat)))) [11, 10] = some (US sc dl t2 t3 t4 t5 t6 t7 (.val (.int (k : Int))) t9 .no .no) := rfl
    have hv : evArg (.e (sVar 10)) (US sc dl t2 t3 t4 t5 t6 t7 (.val (.int (k : Int))) t9 (.val (.str x)) (.val (.int (i : Nat)))) = .ok (.d (.str x)) (US sc dl t2 t3 t4 t5 t6 t7 (.val (.int (k : Int))) t9 (.val (.str x)) (.val (.int (i : Nat)))) := rfl
    have hc := bC_ok (sc := sc) (dl := dl) (t2 := t2) (t3 := t3) (t4 := t4) (t5 := t5) (t6 := t6) (t7 := t7) (t9 := t9) (d := .str x) (k := k) (i := i)
    have ht : bT (.tup [.int (i : Nat), .str x]) (US sc dl t2 t3 t4 t5 t6 t7 (.val (.int (k : Int))) t9 .no .no) = some (US sc dl t2 t3 t4 t5 t6 t7 (.val (.int (k : Int))) t9 (.val (.str x)) (.val (.int (i : Nat)))) := rfl
    show loopC [11, 10] bT bC (sVar 10) (.tup [.int (i : Nat), .str x] :: enumD (i + 1) (r.map D.str)) (US sc dl t2 t3 t4 t5 t6 t7 (.val (.int (k : Int))) t9 .no .no) acc = _
    by_cases z : (Builtin.bitAnd ((k : Int) / 2 ^ i) 1 == 1) = true
    · rw [z] at hc
      rw [loopC_yes ht hc hv hb, ih]
      rw [show kbits k i (x :: r) = x :: kbits k (i + 1) r by rw [kbits, if_pos z]]
      simp
    · have z' : (Builtin.bitAnd ((k : Int) / 2 ^ i) 1 == 1) = false := by rw [← Bool.not_eq_true]; exact z
      rw [z'] at hc
      rw [loopC_no ht hc hb, ih]
      rw [show kbits k i (x :: r) = kbits k (i + 1) r by rw [kbits, if_neg z]]
theorem bE_ok {k : Nat} {zs : List Str} (h : zs.length < 64) : bE (US sc dl t2 t3 t4 t5 t6 (.own (.lst (zs.map D.str))) (.val (.int (k : Int))) t9 .no .no) = .ok (true, .lst ((kbits k 0 zs).map D.str)) (US sc dl t2 t3 t4 t5 t6 (.own (.lst (zs.map D.str))) (.val (.int (k : Int))) t9 .no .no) := by
  have hi : itEnum (.p 7) (US sc dl t2 t3 t4 t5 t6 (.own (.lst (zs.map D.str))) (.val (.int (k : Int))) t9 .no .no) = .ok (enumD 0 (zs.map D.str), .own 7) (US sc dl t2 t3 t4 t5 t6 (.lown (.lst (zs.map D.str))) (.val (.int (k : Int))) t9 .no .no) := rfl
  unfold bE
  rw [e_sComp, hi, e_bok]
  unfold kComp
  rw [if_pos ⟨rfl, by show (enumD 0 (zs.map D.str)).length < _; rw [enumD_length, List.length_map]; unfold sizeLine; omega⟩]
  show kComp1 _ _ _ (loopC [11, 10] bT bC (sVar 10) (enumD 0 (zs.map D.str)) (US sc dl t2 t3 t4 t5 t6 (.lown (.lst (zs.map D.str))) (.val (.int (k : Int))) t9 .no .no) []) = _
  rw [bL_ok]
  rfl
def bB : SS := bIf (cVal (sOp (l2 dNe) [.e bE, .e (sOp (l1 dList) [.p 9])])) (bRet (sC (.bl false))) bNil
theorem bB_ok {k : Nat} {zs : List Str} {l : List D} (h : zs.length < 64) (e : (kbits k 0 zs).map D.str = l) (hn : dNe (.lst l) (.lst l) = some (false, .bl false)) : bB (US sc dl t2 t3 t4 t5 t6 (.own (.lst (zs.map D.str))) (.val (.int (k : Int))) (.val (.tup l)) .no .no) = .nx (US sc dl t2 t3 t4 t5 t6 (.own (.lst (zs.map D.str))) (.val (.int (k : Int))) (.val (.tup l)) .no .no) := by
  have he := bE_ok (sc := sc) (dl := dl) (t2 := t2) (t3 := t3) (t4 := t4) (t5 := t5) (t6 := t6) (t9 := .val (.tup l)) (k := k) h
  have hl : dList (.tup l) = some (true, .lst l) := rfl
  rw [e] at he
  unfold bB
  simp only [he, hl, hn, e_bok, e_bexc, e_bno, e_tok, e_texc, e_tno, e_snx, e_srt, e_sbk, e_sct, e_sexc, e_sno, e_getP, e_evE, e_evP, e_evN, e_evC, e_derN, e_derC, e_derBC, e_der, e_derP, e_sArgs, e_sOp, e_sDisp, e_sVar, e_mvVar, e_sC, e_cVal, e_cAnd, e_cOr, e_cNot, e_cTru, e_sAnd, e_sOr, e_sNot, e_sIf, e_bNil, e_bCons, e_bIf, e_bSet, e_bExpr, e_bRet, e_bRetN, e_bPass, e_stS, e_mutS, e_sMut, e_bPar, e_sCallV, e_sCallI, e_itP, e_itAP, e_itAE, e_itSeq, e_itEnum, e_itRng1, e_itRng2, e_oNo, e_oVal, e_oOwn, e_oIo, e_bFor, e_sComp, e_sDeal, e_cYes, kGet, kOpt, kLis, kE, kP, kAs1, kAs, kDer, kOp, kDisp, kVar, kMv, kVal, kAndT, kOrT, kNotT, kTru, kAndE, kOrE, kNotE, kIfE, kIfS, kNx, kSetS, kExp, kSt, kMut, kMut3, kMut2, kMut1, kMutA, kMut0, kPar2, kPar1, kPar0, kFn, kFnO, kCall, kIo, kIoO, kCallI, kCallI0, kItP, kItE, kSeq, kEnum, kForB, kComp1, kComp, kDeal2, kDeal1, kDeal0, List.getElem?_cons_succ, List.getElem?_cons_zero, List.set_cons_zero, List.set_cons_succ, List.length_nil, List.length_cons, Bool.false_and, Bool.and_false, Bool.true_and, Bool.and_true, Bool.not_true, Bool.not_false, Bool.false_eq_true, if_true, if_false, reduceIte, Option.map_some, Option.map_none, Option.bind_some, Option.bind_none, D.seals, D.isB, l1, l2, frz, frzA, oAppend, oPop, oPopAt, oExtend, mTup, mLst, Nat.zero_le, argsVL, ioC, seqOf, okSeq, unlS, unlock, unlO, unlI, derefB, D.truth, e_bAsg, e_stN, e_stT, e_stNil, e_stCons, kAsgS, kCn]
theorem loopF_inv {st : TgS} {body : SS} {Inv : J.Env → Prop} : ∀ (ds : List D) (ρ : J.Env), Inv ρ → (∀ d ∈ ds, ∀ ρ, Inv ρ → ∃ ρ1 ρ2, st d ρ = some ρ1 ∧ body ρ1 = .nx ρ2 ∧ Inv ρ2) → ∃ ρ', loopF st body ds ρ = .nx ρ' ∧ Inv ρ'
  | [], ρ, h, _ => ⟨ρ, rfl, h⟩
  | d :: r, ρ, h, w => by
    obtain ⟨ρ1, ρ2, h1, h2, h3⟩ := w d List.mem_cons_self ρ h
    rw [loopF_cons h1 h2]
    exact loopF_inv r ρ2 h3 fun x hx => w x (List.mem_cons_of_mem _ hx)
theorem enumD_mem : ∀ {ds : List D} {i : Nat} {x : D}, x ∈ enumD i ds → ∃ j d, ds[j]? = some d ∧ x = .tup [.int ((i + j : Nat) : Int), d]
  | d :: r, i, x, h => by
    rcases List.mem_cons.mp (show x ∈ D.tup [.int (i : Nat), d] :: enumD (i + 1) r from h) with rfl | h
    · exact ⟨0, d, rfl, rfl⟩
    · obtain ⟨j, e, hj, rfl⟩ := enumD_mem h
      exact ⟨j + 1, e, by simpa using hj, by rw [show i + (j + 1) = i + 1 + j by omega]⟩
  | [], i, x, h => by cases h
def u7 : SS := bFor (itEnum (.p 6)) (stT (stCons (J.stN 8) (stCons (J.stN 9) stNil))) bB
theorem kd_get {ys : List Str} {j : Nat} {d : D} (h : (kindsD ys)[j]? = some d) : j < 2 ^ ys.length ∧ d = .tup ((kbits (j : Int) 0 ys).map D.str) := by
  unfold kindsD rng at h
  rw [List.map_map, List.getElem?_map] at h
  obtain ⟨k, hk, rfl⟩ := Option.map_eq_some_iff.mp h
  obtain ⟨hj, e⟩ := List.getElem?_eq_some_iff.mp hk
  rw [List.getElem_range] at e
  subst e
  rw [List.length_range] at hj
  refine ⟨hj, ?_⟩
  show D.tup ((kbits (0 + (j : Int)) 0 ys).map D.str) = _
  rw [Int.zero_add]
theorem u7_ok (go : Good xs) (h8 : t8.open = true) (h9 : t9.open = true) : ∃ t8' t9', u7 (TS sc dl t2 t3 t4 t5 (.val (.tup (kindsD (sset xs)))) (.own (.lst ((ssort xs).map D.str))) t8 t9) = .nx (TS sc dl t2 t3 t4 t5 (.val (.tup (kindsD (sset xs)))) (.own (.lst ((ssort xs).map D.str))) t8' t9') ∧ t8'.open = true ∧ t9'.open = true := by
  have few := go.few
  have hi : itEnum (.p 6) (TS sc dl t2 t3 t4 t5 (.val (.tup (kindsD (sset xs)))) (.own (.lst ((ssort xs).map D.str))) t8 t9) = .ok (enumD 0 (kindsD (sset xs)), .none) (TS sc dl t2 t3 t4 t5 (.val (.tup (kindsD (sset xs)))) (.own (.lst ((ssort xs).map D.str))) t8 t9) := rfl
  obtain ⟨t, ht⟩ := go.pre
  have hlen : (ssort xs).length < 64 := by rw [(ssort_perm xs).length_eq]; omega
  obtain ⟨ρ', e, t8', t9', rfl, h8', h9'⟩ := loopF_inv (st := stT (stCons (J.stN 8) (stCons (J.stN 9) stNil))) (body := bB) (Inv := fun ρ => ∃ t8' t9', ρ = TS sc dl t2 t3 t4 t5 (.val (.tup (kindsD (sset xs)))) (.own (.lst ((ssort xs).map D.str))) t8' t9' ∧ t8'.open = true ∧ t9'.open = true) (enumD 0 (kindsD (sset xs))) _ ⟨t8, t9, rfl, h8, h9⟩ (fun x hx ρ ⟨a, b, hρ, ha, hb⟩ => by
    subst hρ
    obtain ⟨j, d, hj, rfl⟩ := enumD_mem hx
    obtain ⟨hj2, rfl⟩ := kd_get hj
    rw [Nat.zero_add]
    refine ⟨TS sc dl t2 t3 t4 t5 (.val (.tup (kindsD (sset xs)))) (.own (.lst ((ssort xs).map D.str))) (.val (.int (j : Int))) (.val (.tup ((kbits (j : Int) 0 (sset xs)).map D.str))), TS sc dl t2 t3 t4 t5 (.val (.tup (kindsD (sset xs)))) (.own (.lst ((ssort xs).map D.str))) (.val (.int (j : Int))) (.val (.tup ((kbits (j : Int) 0 (sset xs)).map D.str))), ?_, ?_, ⟨.val (.int (j : Int)), .val (.tup ((kbits (j : Int) 0 (sset xs)).map D.str)), rfl, rfl, rfl⟩⟩
    · simp only [ha, hb, e_bok, e_bexc, e_bno, e_tok, e_texc, e_tno, e_snx, e_srt, e_sbk, e_sct, e_sexc, e_sno, e_getP, e_evE, e_evP, e_evN, e_evC, e_derN, e_derC, e_derBC, e_der, e_derP, e_sArgs, e_sOp, e_sDisp, e_sVar, e_mvVar, e_sC, e_cVal, e_cAnd, e_cOr, e_cNot, e_cTru, e_sAnd, e_sOr, e_sNot, e_sIf, e_bNil, e_bCons, e_bIf, e_bSet, e_bExpr, e_bRet, e_bRetN, e_bPass, e_stS, e_mutS, e_sMut, e_bPar, e_sCallV, e_sCallI, e_itP, e_itAP, e_itAE, e_itSeq, e_itEnum, e_itRng1, e_itRng2, e_oNo, e_oVal, e_oOwn, e_oIo, e_bFor, e_sComp, e_sDeal, e_cYes, kGet, kOpt, kLis, kE, kP, kAs1, kAs, kDer, kOp, kDisp, kVar, kMv, kVal, kAndT, kOrT, kNotT, kTru, kAndE, kOrE, kNotE, kIfE, kIfS, kNx, kSetS, kExp, kSt, kMut, kMut3, kMut2, kMut1, kMutA, kMut0, kPar2, kPar1, kPar0, kFn, kFnO, kCall, kIo, kIoO, kCallI, kCallI0, kItP, kItE, kSeq, kEnum, kForB, kComp1, kComp, kDeal2, kDeal1, kDeal0, List.getElem?_cons_succ, List.getElem?_cons_zero, List.set_cons_zero, List.set_cons_succ, List.length_nil, List.length_cons, Bool.false_and, Bool.and_false, Bool.true_and, Bool.and_true, Bool.not_true, Bool.not_false, Bool.false_eq_true, if_true, if_false, reduceIte, Option.map_some, Option.map_none, Option.bind_some, Option.bind_none, D.seals, D.isB, l1, l2, frz, frzA, oAppend, oPop, oPopAt, oExtend, mTup, mLst, Nat.zero_le, argsVL, ioC, seqOf, okSeq, unlS, unlock, unlO, unlI, derefB, D.truth, e_bAsg, e_stN, e_stT, e_stNil, e_stCons, kAsgS, kCn]
    · exact bB_ok hlen (by rw [ht, kbits_cut hj2]) (ne_lst fun y hy => go.sgw y ((kbits_sub _ _ _).subset hy)))
  refine ⟨t8', t9', ?_, h8', h9'⟩
  unfold u7
  rw [e_bFor, hi, e_tok]
  show unlS .none (loopF _ bB (enumD 0 (kindsD (sset xs))) _) = _
  rw [e]
  rfl
def turn : SS := bCons u1 (bCons u2 (bCons u3 (bCons u4 (bCons u5 (bCons u6 (bCons u7 u8))))))
theorem turn_ok {gs : List Int} {s : Int} (g : GD gs s) (h3 : t3.open = true) (h4 : t4.open = true) (h5 : t5.open = true) (h6 : t6.open = true) (h7 : t7.open = true) (h8 : t8.open = true) (h9 : t9.open = true) :
    ∃ gs' s' a3 a4 a5 a6 a7 a8 a9, turn (TS sc (.deal gs s) t2 t3 t4 t5 t6 t7 t8 t9) = .nx (TS sc (.deal gs' s') t2 a3 a4 a5 a6 a7 a8 a9) ∧ GD gs' s' ∧ a3.open = true ∧ a4.open = true ∧ a5.open = true ∧ a6.open = true ∧ a7.open = true ∧ a8.open = true ∧ a9.open = true := by
  obtain ⟨g1, s1, xs, e1, d1, go⟩ := u1_ok (sc := sc) (t2 := t2) (t4 := t4) (t5 := t5) (t6 := t6) (t7 := t7) (t8 := t8) (t9 := t9) g h3
  obtain ⟨g2, s2, ys, e2, d2, hm, hy⟩ := u2_ok (sc := sc) (t2 := t2) (t5 := t5) (t6 := t6) (t7 := t7) (t8 := t8) (t9 := t9) d1 go.few h4
  obtain ⟨g3, s3, t, d, e3, d3, hg⟩ := u3_ok (sc := sc) (t2 := t2) (t3 := .own (.lst (xs.map D.str))) (t6 := t6) (t7 := t7) (t8 := t8) (t9 := t9) d2 hy h5
  have e4 := u4_ok (sc := sc) (t2 := t2) (t3 := .own (.lst (xs.map D.str))) (t4 := .own (.lst (ys.map D.str))) (t7 := t7) (t8 := t8) (t9 := t9) (dl := .deal g3 s3) hg hm go.few hy h6
  have e5 := u5_ok (sc := sc) (dl := .deal g3 s3) (t2 := t2) (t7 := t7) (t8 := t8) (t9 := t9) hg hm go
  have e6 := u6_ok (sc := sc) (dl := .deal g3 s3) (t2 := t2) (t4 := .own (.lst (ys.map D.str))) (t5 := t) (t6 := .val (.tup (kindsD (sset xs)))) (t8 := t8) (t9 := t9) go.few h7
  obtain ⟨a8, a9, e7, h8', h9'⟩ := u7_ok (sc := sc) (dl := .deal g3 s3) (t2 := t2) (t3 := .own (.lst (xs.map D.str))) (t4 := .own (.lst (ys.map D.str))) (t5 := t) go h8 h9
  have e8 := u8_ok (sc := sc) (dl := .deal g3 s3) (t2 := t2) (t4 := .own (.lst (ys.map D.str))) (t5 := t) (t7 := .own (.lst ((ssort xs).map D.str))) (t8 := a8) (t9 := a9) go
  refine ⟨g3, s3, .own (.lst (xs.map D.str)), .own (.lst (ys.map D.str)), t, .val (.tup (kindsD (sset xs))), .own (.lst ((ssort xs).map D.str)), a8, a9, ?_, d3, rfl, rfl, hg.opn, rfl, rfl, h8', h9'⟩
  unfold turn
  rw [e_bCons, e1, e_snx, e_bCons, e2, e_snx, e_bCons, e3, e_snx, e_bCons, e4, e_snx, e_bCons, e5, e_snx, e_bCons, e6, e_snx, e_bCons, e7, e_snx, e8]
end
/-! ### the law -/
theorem law_eq : m_law = bCons (bSet 1 (sCallV [true, true] (M__law_source) [.p 0, .e (sC (.int 0))])) (bCons (bFor (itRng1 (.e (sC (.int 6)))) (J.stN 2) turn) (bRet endE)) := rfl
theorem law_true (ns : List Int) (h : ns.length ≤ 63) : ∃ o, M_law [.scr ns] = .ok (false, .bl true) o := by
  obtain ⟨gs, s, e1, g⟩ := source_ok (ns := ns) (by omega)
  have s1 : bSet 1 (sCallV [true, true] (M__law_source) [.p 0, .e (sC (.int 0))]) [.lent (.scr ns), .no, .no, .no, .no, .no, .no, .no, .no, .no, .no, .no] = .nx (TS (.scr ns) (.deal gs s) .no .no .no .no .no .no .no .no) := by
    simp only [e1, e_bok, e_bexc, e_bno, e_tok, e_texc, e_tno, e_snx, e_srt, e_sbk, e_sct, e_sexc, e_sno, e_getP, e_evE, e_evP, e_evN, e_evC, e_derN, e_derC, e_derBC, e_der, e_derP, e_sArgs, e_sOp, e_sDisp, e_sVar, e_mvVar, e_sC, e_cVal, e_cAnd, e_cOr, e_cNot, e_cTru, e_sAnd, e_sOr, e_sNot, e_sIf, e_bNil, e_bCons, e_bIf, e_bSet, e_bExpr, e_bRet, e_bRetN, e_bPass, e_stS, e_mutS, e_sMut, e_bPar, e_sCallV, e_sCallI, e_itP, e_itAP, e_itAE, e_itSeq, e_itEnum, e_itRng1, e_itRng2, e_oNo, e_oVal, e_oOwn, e_oIo, e_bFor, e_sComp, e_sDeal, e_cYes, kGet, kOpt, kLis, kE, kP, kAs1, kAs, kDer, kOp, kDisp, kVar, kMv, kVal, kAndT, kOrT, kNotT, kTru, kAndE, kOrE, kNotE, kIfE, kIfS, kNx, kSetS, kExp, kSt, kMut, kMut3, kMut2, kMut1, kMutA, kMut0, kPar2, kPar1, kPar0, kFn, kFnO, kCall, kIo, kIoO, kCallI, kCallI0, kItP, kItE, kSeq, kEnum, kForB, kComp1, kComp, kDeal2, kDeal1, kDeal0, List.getElem?_cons_succ, List.getElem?_cons_zero, List.set_cons_zero, List.set_cons_succ, List.length_nil, List.length_cons, Bool.false_and, Bool.and_false, Bool.true_and, Bool.and_true, Bool.not_true, Bool.not_false, Bool.false_eq_true, if_true, if_false, reduceIte, Option.map_some, Option.map_none, Option.bind_some, Option.bind_none, D.seals, D.isB, l1, l2, frz, frzA, oAppend, oPop, oPopAt, oExtend, mTup, mLst, Nat.zero_le, argsVL, ioC, seqOf, okSeq, unlS, unlock, unlO, unlI, derefB, D.truth, e_bAsg, e_stN, e_stT, e_stNil, e_stCons, kAsgS, kCn]
  have hs : sArgs [.e (sC (.int 6))] (TS (.scr ns) (.deal gs s) .no .no .no .no .no .no .no .no) = .ok [.int ((6 : Nat) : Int)] (TS (.scr ns) (.deal gs s) .no .no .no .no .no .no .no .no) := rfl
  obtain ⟨ρ', e, _⟩ := loopF_inv (st := J.stN 2) (body := turn) (Inv := fun ρ => ∃ gs s t2 t3 t4 t5 t6 t7 t8 t9, ρ = TS (.scr ns) (.deal gs s) t2 t3 t4 t5 t6 t7 t8 t9 ∧ GD gs s ∧ t2.open = true ∧ t3.open = true ∧ t4.open = true ∧ t5.open = true ∧ t6.open = true ∧ t7.open = true ∧ t8.open = true ∧ t9.open = true) (rng 0 6) (TS (.scr ns) (.deal gs s) .no .no .no .no .no .no .no .no) ⟨gs, s, .no, .no, .no, .no, .no, .no, .no, .no, rfl, g, rfl, rfl, rfl, rfl, rfl, rfl, rfl, rfl⟩ (fun x hx ρ ⟨gs, s, t2, t3, t4, t5, t6, t7, t8, t9, hρ, g, h2, h3, h4, h5, h6, h7, h8, h9⟩ => by
    subst hρ
    obtain ⟨gs', s', a3, a4, a5, a6, a7, a8, a9, e, g', q3, q4, q5, q6, q7, q8, q9⟩ := turn_ok (sc := .scr ns) (t2 := .val x) g h3 h4 h5 h6 h7 h8 h9
    refine ⟨_, _, ?_, e, gs', s', .val x, a3, a4, a5, a6, a7, a8, a9, rfl, g', rfl, q3, q4, q5, q6, q7, q8, q9⟩
    simp only [h2, e_bok, e_bexc, e_bno, e_tok, e_texc, e_tno, e_snx, e_srt, e_sbk, e_sct, e_sexc, e_sno, e_getP, e_evE, e_evP, e_evN, e_evC, e_derN, e_derC, e_derBC, e_der, e_derP, e_sArgs, e_sOp, e_sDisp, e_sVar, e_mvVar, e_sC, e_cVal, e_cAnd, e_cOr, e_cNot, e_cTru, e_sAnd, e_sOr, e_sNot, e_sIf, e_bNil, e_bCons, e_bIf, e_bSet, e_bExpr, e_bRet, e_bRetN, e_bPass, e_stS, e_mutS, e_sMut, e_bPar, e_sCallV, e_sCallI, e_itP, e_itAP, e_itAE, e_itSeq, e_itEnum, e_itRng1, e_itRng2, e_oNo, e_oVal, e_oOwn, e_oIo, e_bFor, e_sComp, e_sDeal, e_cYes, kGet, kOpt, kLis, kE, kP, kAs1, kAs, kDer, kOp, kDisp, kVar, kMv, kVal, kAndT, kOrT, kNotT, kTru, kAndE, kOrE, kNotE, kIfE, kIfS, kNx, kSetS, kExp, kSt, kMut, kMut3, kMut2, kMut1, kMutA, kMut0, kPar2, kPar1, kPar0, kFn, kFnO, kCall, kIo, kIoO, kCallI, kCallI0, kItP, kItE, kSeq, kEnum, kForB, kComp1, kComp, kDeal2, kDeal1, kDeal0, List.getElem?_cons_succ, List.getElem?_cons_zero, List.set_cons_zero, List.set_cons_succ, List.length_nil, List.length_cons, Bool.false_and, Bool.and_false, Bool.true_and, Bool.and_true, Bool.not_true, Bool.not_false, Bool.false_eq_true, if_true, if_false, reduceIte, Option.map_some, Option.map_none, Option.bind_some, Option.bind_none, D.seals, D.isB, l1, l2, frz, frzA, oAppend, oPop, oPopAt, oExtend, mTup, mLst, Nat.zero_le, argsVL, ioC, seqOf, okSeq, unlS, unlock, unlO, unlI, derefB, D.truth, e_bAsg, e_stN, e_stT, e_stNil, e_stCons, kAsgS, kCn])
  refine ⟨.non, runV_rt (n := 11) (md := [true]) (f := m_law) (ρ := ρ') ?_⟩
  rw [law_eq]
  show bCons _ (bCons _ (bRet endE)) [.lent (.scr ns), .no, .no, .no, .no, .no, .no, .no, .no, .no, .no, .no] = _
  rw [e_bCons, s1, e_snx, e_bCons, for_rng1 hs (by omega), e]
  show seqS (.nx ρ') (bRet endE) = _
  rw [e_snx, e_bRet, end_ok, e_tok]


theorem all_mk {l : PySem.W.OpenLaw} {w : World} {K : PySem.W.Frag} {h : Heap} {mg : Str → Option Value} {fa : Addr}
    {f_kinds : Addr} {od_kinds an_kinds : Option Addr} {sl_kinds : Array (Option Value)} {oc_kinds kV_kinds dc_kinds pm_kinds cd_kinds ct_kinds : Value}
    {f_kind_at : Addr} {od_kind_at an_kind_at : Option Addr} {sl_kind_at : Array (Option Value)} {oc_kind_at kV_kind_at dc_kind_at pm_kind_at cd_kind_at ct_kind_at : Value}
    {f__law_source : Addr} {od__law_source an__law_source : Option Addr} {sl__law_source : Array (Option Value)} {oc__law_source kV__law_source dc__law_source pm__law_source cd__law_source ct__law_source : Value}
    {f__law_draw : Addr} {od__law_draw an__law_draw : Option Addr} {sl__law_draw : Array (Option Value)} {oc__law_draw kV__law_draw dc__law_draw pm__law_draw cd__law_draw ct__law_draw : Value}
    {f__law_shuffled : Addr} {od__law_shuffled an__law_shuffled : Option Addr} {sl__law_shuffled : Array (Option Value)} {oc__law_shuffled kV__law_shuffled dc__law_shuffled pm__law_shuffled cd__law_shuffled ct__law_shuffled : Value}
    {f__law_names : Addr} {od__law_names an__law_names : Option Addr} {sl__law_names : Array (Option Value)} {oc__law_names kV__law_names dc__law_names pm__law_names cd__law_names ct__law_names : Value}
    {f__law_kinds : Addr} {od__law_kinds an__law_kinds : Option Addr} {sl__law_kinds : Array (Option Value)} {oc__law_kinds kV__law_kinds dc__law_kinds pm__law_kinds cd__law_kinds ct__law_kinds : Value}
    {f_law : Addr} {od_law an_law : Option Addr} {sl_law : Array (Option Value)} {oc_law kV_law dc_law pm_law cd_law ct_law : Value}
    (X : K.In h) (G : h.Ns mainGlobals mg) (hfa : mg "law" = some (.ref fa))
    (a_kinds : PySem.W.nsIn K mainGlobals "kinds" = some (some (.ref f_kinds)))
    (l_kinds : K.lookup f_kinds = some ⟨oc_kinds, od_kinds, .func (PySem.W.fnOf "kinds" "kinds" (defArgs s_kinds) (defBody s_kinds) (defScope s_kinds) .none kV_kinds dc_kinds pm_kinds an_kinds cd_kinds ct_kinds), sl_kinds⟩)
    (c_kinds : PySem.W.codeIn K cd_kinds "kinds" = true)
    (k_kinds : PySem.W.keepIn K (.ref f_kinds) = true)
    (a_kind_at : PySem.W.nsIn K mainGlobals "kind_at" = some (some (.ref f_kind_at)))
    (l_kind_at : K.lookup f_kind_at = some ⟨oc_kind_at, od_kind_at, .func (PySem.W.fnOf "kind_at" "kind_at" (defArgs s_kind_at) (defBody s_kind_at) (defScope s_kind_at) .none kV_kind_at dc_kind_at pm_kind_at an_kind_at cd_kind_at ct_kind_at), sl_kind_at⟩)
    (c_kind_at : PySem.W.codeIn K cd_kind_at "kind_at" = true)
    (k_kind_at : PySem.W.keepIn K (.ref f_kind_at) = true)
    (a__law_source : PySem.W.nsIn K mainGlobals "_law_source" = some (some (.ref f__law_source)))
    (l__law_source : K.lookup f__law_source = some ⟨oc__law_source, od__law_source, .func (PySem.W.fnOf "_law_source" "_law_source" (defArgs s__law_source) (defBody s__law_source) (defScope s__law_source) .none kV__law_source dc__law_source pm__law_source an__law_source cd__law_source ct__law_source), sl__law_source⟩)
    (c__law_source : PySem.W.codeIn K cd__law_source "_law_source" = true)
    (k__law_source : PySem.W.keepIn K (.ref f__law_source) = true)
    (a__law_draw : PySem.W.nsIn K mainGlobals "_law_draw" = some (some (.ref f__law_draw)))
    (l__law_draw : K.lookup f__law_draw = some ⟨oc__law_draw, od__law_draw, .func (PySem.W.fnOf "_law_draw" "_law_draw" (defArgs s__law_draw) (defBody s__law_draw) (defScope s__law_draw) .none kV__law_draw dc__law_draw pm__law_draw an__law_draw cd__law_draw ct__law_draw), sl__law_draw⟩)
    (c__law_draw : PySem.W.codeIn K cd__law_draw "_law_draw" = true)
    (k__law_draw : PySem.W.keepIn K (.ref f__law_draw) = true)
    (a__law_shuffled : PySem.W.nsIn K mainGlobals "_law_shuffled" = some (some (.ref f__law_shuffled)))
    (l__law_shuffled : K.lookup f__law_shuffled = some ⟨oc__law_shuffled, od__law_shuffled, .func (PySem.W.fnOf "_law_shuffled" "_law_shuffled" (defArgs s__law_shuffled) (defBody s__law_shuffled) (defScope s__law_shuffled) .none kV__law_shuffled dc__law_shuffled pm__law_shuffled an__law_shuffled cd__law_shuffled ct__law_shuffled), sl__law_shuffled⟩)
    (c__law_shuffled : PySem.W.codeIn K cd__law_shuffled "_law_shuffled" = true)
    (k__law_shuffled : PySem.W.keepIn K (.ref f__law_shuffled) = true)
    (a__law_names : PySem.W.nsIn K mainGlobals "_law_names" = some (some (.ref f__law_names)))
    (l__law_names : K.lookup f__law_names = some ⟨oc__law_names, od__law_names, .func (PySem.W.fnOf "_law_names" "_law_names" (defArgs s__law_names) (defBody s__law_names) (defScope s__law_names) .none kV__law_names dc__law_names pm__law_names an__law_names cd__law_names ct__law_names), sl__law_names⟩)
    (c__law_names : PySem.W.codeIn K cd__law_names "_law_names" = true)
    (k__law_names : PySem.W.keepIn K (.ref f__law_names) = true)
    (a__law_kinds : PySem.W.nsIn K mainGlobals "_law_kinds" = some (some (.ref f__law_kinds)))
    (l__law_kinds : K.lookup f__law_kinds = some ⟨oc__law_kinds, od__law_kinds, .func (PySem.W.fnOf "_law_kinds" "_law_kinds" (defArgs s__law_kinds) (defBody s__law_kinds) (defScope s__law_kinds) .none kV__law_kinds dc__law_kinds pm__law_kinds an__law_kinds cd__law_kinds ct__law_kinds), sl__law_kinds⟩)
    (c__law_kinds : PySem.W.codeIn K cd__law_kinds "_law_kinds" = true)
    (k__law_kinds : PySem.W.keepIn K (.ref f__law_kinds) = true)
    (a_law : PySem.W.nsIn K mainGlobals "law" = some (some (.ref f_law)))
    (l_law : K.lookup f_law = some ⟨oc_law, od_law, .func (PySem.W.fnOf "law" "law" (defArgs s_law) (defBody s_law) (defScope s_law) .none kV_law dc_law pm_law an_law cd_law ct_law), sl_law⟩)
    (c_law : PySem.W.codeIn K cd_law "law" = true)
    (k_law : PySem.W.keepIn K (.ref f_law) = true)
    (z_sorted : PySem.W.nsIn K mainGlobals "sorted" = some none)
    (z_set : PySem.W.nsIn K mainGlobals "set" = some none)
    (z_len : PySem.W.nsIn K mainGlobals "len" = some none)
    (z_range : PySem.W.nsIn K mainGlobals "range" = some none)
    (z_tuple : PySem.W.nsIn K mainGlobals "tuple" = some none)
    (z_enumerate : PySem.W.nsIn K mainGlobals "enumerate" = some none)
    (z_int : PySem.W.nsIn K mainGlobals "int" = some none)
    (z_abs : PySem.W.nsIn K mainGlobals "abs" = some none)
    (z_list : PySem.W.nsIn K mainGlobals "list" = some none)
    (z_str : PySem.W.nsIn K mainGlobals "str" = some none)
    (z_repr : PySem.W.nsIn K mainGlobals "repr" = some none) :
    ∃ fd : FuncData, (∀ (s : Shared) (v : Value), BindsTo s fd ⟨[v], []⟩ [("_law_script", v)]) ∧ ∀ base : Heap, K.In base → base.Ns mainGlobals mg → Fn l.prog w K mg base 4 fa fd ["_law_script"] (spL K mg 63 true) := by
  have e := hfa.symm.trans (PySem.W.mg_of X G a_law)
  cases e
  have hm_sorted := PySem.W.mg_none_of X G z_sorted
  have hm_set := PySem.W.mg_none_of X G z_set
  have hm_len := PySem.W.mg_none_of X G z_len
  have hm_range := PySem.W.mg_none_of X G z_range
  have hm_tuple := PySem.W.mg_none_of X G z_tuple
  have hm_enumerate := PySem.W.mg_none_of X G z_enumerate
  have hm_int := PySem.W.mg_none_of X G z_int
  have hm_abs := PySem.W.mg_none_of X G z_abs
  have hm_list := PySem.W.mg_none_of X G z_list
  have hm_str := PySem.W.mg_none_of X G z_str
  have hm_repr := PySem.W.mg_none_of X G z_repr
  have U_kind_at := fun_mk (st := s_kind_at) l_kind_at c_kind_at k_kind_at
  have hm_kind_at := PySem.W.mg_of X G a_kind_at
  have hb_kind_at := U_kind_at.binds (ps := ["names", "number"]) fun _ _ _ _ _ _ us hl => match us, hl with | [_, _], _ => rfl
  have U__law_source := fun_mk (st := s__law_source) l__law_source c__law_source k__law_source
  have hm__law_source := PySem.W.mg_of X G a__law_source
  have hb__law_source := U__law_source.binds (ps := ["_law_script", "_law_base"]) fun _ _ _ _ _ _ us hl => match us, hl with | [_, _], _ => rfl
  have U__law_draw := fun_mk (st := s__law_draw) l__law_draw c__law_draw k__law_draw
  have hm__law_draw := PySem.W.mg_of X G a__law_draw
  have hb__law_draw := U__law_draw.binds (ps := ["_law_deal", "_law_many"]) fun _ _ _ _ _ _ us hl => match us, hl with | [_, _], _ => rfl
  have U__law_kinds := fun_mk (st := s__law_kinds) l__law_kinds c__law_kinds k__law_kinds
  have hm__law_kinds := PySem.W.mg_of X G a__law_kinds
  have hb__law_kinds := U__law_kinds.binds (ps := ["_law_names_here"]) fun _ _ _ _ _ _ us hl => match us, hl with | [_], _ => rfl
  have U_kinds := fun_mk (st := s_kinds) l_kinds c_kinds k_kinds
  have hm_kinds := PySem.W.mg_of X G a_kinds
  have hb_kinds := U_kinds.binds (ps := ["names"]) fun _ _ _ _ _ _ us hl => match us, hl with | [_], _ => rfl
  have U__law_shuffled := fun_mk (st := s__law_shuffled) l__law_shuffled c__law_shuffled k__law_shuffled
  have hm__law_shuffled := PySem.W.mg_of X G a__law_shuffled
  have hb__law_shuffled := U__law_shuffled.binds (ps := ["_law_deal", "_law_some"]) fun _ _ _ _ _ _ us hl => match us, hl with | [_, _], _ => rfl
  have U__law_names := fun_mk (st := s__law_names) l__law_names c__law_names k__law_names
  have hm__law_names := PySem.W.mg_of X G a__law_names
  have hb__law_names := U__law_names.binds (ps := ["_law_deal", "_law_many"]) fun _ _ _ _ _ _ us hl => match us, hl with | [_, _], _ => rfl
  have U_law := fun_mk (st := s_law) l_law c_law k_law
  have hm_law := PySem.W.mg_of X G a_law
  have hb_law := U_law.binds (ps := ["_law_script"]) fun _ _ _ _ _ _ us hl => match us, hl with | [_], _ => rfl
  refine ⟨PySem.W.fnOf "law" "law" (defArgs s_law) (defBody s_law) (defScope s_law) .none kV_law dc_law pm_law an_law cd_law ct_law, fun s v => .of_eq rfl, fun base _ _ => ?_⟩
  have F_kind_at := ok_kind_at (P := l.prog) (w := w) (base := base) U_kind_at hm_enumerate hm_tuple
  have F__law_source := ok__law_source (P := l.prog) (w := w) (base := base) U__law_source hm_int hm_abs hm_enumerate
  have F__law_draw := ok__law_draw (P := l.prog) (w := w) (base := base) U__law_draw hm_int
  have F__law_kinds := ok__law_kinds (P := l.prog) (w := w) (base := base) U__law_kinds hm_str hm_sorted hm_set
  have F_kinds := ok_kinds (P := l.prog) (w := w) (base := base) U_kinds hm_sorted hm_set hm_len hm_range F_kind_at hm_kind_at k_kind_at hb_kind_at hm_tuple
  have F__law_shuffled := ok__law_shuffled (P := l.prog) (w := w) (base := base) U__law_shuffled hm_list hm_len hm_range F__law_draw hm__law_draw k__law_draw hb__law_draw
  have F__law_names := ok__law_names (P := l.prog) (w := w) (base := base) U__law_names F__law_draw hm__law_draw k__law_draw hb__law_draw F__law_shuffled hm__law_shuffled k__law_shuffled hb__law_shuffled hm_range hm_int
  have F_law := ok_law (P := l.prog) (w := w) (base := base) U_law F__law_source hm__law_source k__law_source hb__law_source hm_range F__law_names hm__law_names k__law_names hb__law_names F__law_draw hm__law_draw k__law_draw hb__law_draw F__law_shuffled hm__law_shuffled k__law_shuffled hb__law_shuffled hm_tuple hm_list F_kinds hm_kinds k_kinds hb_kinds hm_repr F__law_kinds hm__law_kinds k__law_kinds hb__law_kinds hm_str hm_sorted hm_enumerate hm_int
  exact F_law.law law_true
end K02
open PySem PySem.W PyProof.Rows
set_option maxHeartbeats 0 in
theorem PySem.Challenge.cw_mostcrowds_k02_kinds_holds : PySem.Challenge.rw_mostcrowds_k02_kinds.Holds := by
  w_on; o_law; k_head; (case hw => w_witness2)
  k_fill
  refine J.walkF (l := PySem.Challenge.rw_mostcrowds_k02_kinds) (n := 63) (k := 4) (b := true) (x := "_law_script") rfl (by decide) rfl ⟨rfl, by decide, by decide⟩ (fun w h Y => PySem.W.kIn_of Y) ?F
  case F =>
    intro w mg fa h KX G hmg
    refine' K02.all_mk KX G hmg ?a_kinds ?l_kinds ?c_kinds ?k_kinds ?a_kind_at ?l_kind_at ?c_kind_at ?k_kind_at ?a__law_source ?l__law_source ?c__law_source ?k__law_source ?a__law_draw ?l__law_draw ?c__law_draw ?k__law_draw ?a__law_shuffled ?l__law_shuffled ?c__law_shuffled ?k__law_shuffled ?a__law_names ?l__law_names ?c__law_names ?k__law_names ?a__law_kinds ?l__law_kinds ?c__law_kinds ?k__law_kinds ?a_law ?l_law ?c_law ?k_law ?z_sorted ?z_set ?z_len ?z_range ?z_tuple ?z_enumerate ?z_int ?z_abs ?z_list ?z_str ?z_repr
    (case a_kinds => k_is); (case l_kinds => k_is); (case c_kinds => k_is); (case k_kinds => k_is); (case a_kind_at => k_is); (case l_kind_at => k_is); (case c_kind_at => k_is); (case k_kind_at => k_is); (case a__law_source => k_is); (case l__law_source => k_is); (case c__law_source => k_is); (case k__law_source => k_is); (case a__law_draw => k_is); (case l__law_draw => k_is); (case c__law_draw => k_is); (case k__law_draw => k_is); (case a__law_shuffled => k_is); (case l__law_shuffled => k_is); (case c__law_shuffled => k_is); (case k__law_shuffled => k_is); (case a__law_names => k_is); (case l__law_names => k_is); (case c__law_names => k_is); (case k__law_names => k_is); (case a__law_kinds => k_is); (case l__law_kinds => k_is); (case c__law_kinds => k_is); (case k__law_kinds => k_is); (case a_law => k_is); (case l_law => k_is); (case c_law => k_is); (case k_law => k_is); (case z_sorted => k_is); (case z_set => k_is); (case z_len => k_is); (case z_range => k_is); (case z_tuple => k_is); (case z_enumerate => k_is); (case z_int => k_is); (case z_abs => k_is); (case z_list => k_is); (case z_str => k_is); (case z_repr => k_is)
