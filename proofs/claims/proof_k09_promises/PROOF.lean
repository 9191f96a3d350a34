import PyProof.Rows.All
import Wide.All
import OpenK.AllK
import Wide.FinOn
import HandS.ForMost
import HandS.Deep
import HandS.Lambda
import HandS.Set
import HandS.SetFor
import HandS.SetBool
import HandS.TupAny
import HandS.Flow
import HandS.Text
import HandS.Iter
import HandS.Zip
import HandS.IsInst
import HandS.Conv
import HandS.More
import HandS.Sort
import HandS.SetKeys
import HandS.DictComp
import HandS.DictTup
import HandS.TupLen
import HandS.Small
import KE.GoesEnum
import HandS.Property
import HandS.Style
import HandS.MakeKwOnly
import KE.KDictList
import HandS.ListItems
import KE.DataMinMax
import KE.KStateDown
import HandS.Head0
import HandS.Head1
import HandS.Head2
import HandS.HeadHook1
import HandS.HeadHook2
import HandS.HeadHook4
import HandS.HeadWalk
import HandS.Nested
import HandS.NestedK
import PySem.Challenge.RW_framehistory_k09_promises
set_option Elab.async false
set_option linter.all false
set_option maxRecDepth 100000

/-! Sets of texts: which texts there are, and that the set can be walked. -/
namespace FH
open PySem PySem.Spec PyProof.Rows L2

def txOf : Value → Str
  | .str x _ => x
  | _ => ⟨#[]⟩
def TxE (w : World) (e : Int × Value) : Prop := ∃ x t, e = (hashStr w x, Value.str x t)
/-- the set at a has the texts ks, each once; it can be walked -/
structure SetT (w : World) (h : Heap) (a : Addr) (ks : List Str) : Prop where
  ex : ∃ o es ep t, h.get? a = some o ∧ o.ExactSet ∧ o.data = .set es ep t ∧ (∀ e ∈ es.toList, TxE w e) ∧ (es.toList.map fun e => txOf e.2).Perm ks ∧ es.size < scanBound ∧ t.fits es.size = true ∧
    Ris t.place.toList ∧ (w.params.followText "set-order" = true ∨ t.led = true)
  nd : ks.Nodup
def addT (ks : List Str) (x : Str) : List Str := if x ∈ ks then ks else ks ++ [x]
theorem SetT.move {w : World} {h h' : Heap} {a : Addr} {ks : List Str} (R : SetT w h a ks) (k : ∀ o, h.get? a = some o → h'.get? a = some o) : SetT w h' a ks := by
  obtain ⟨⟨o, es, ep, t, ho, r⟩, nd⟩ := R
  exact ⟨⟨o, es, ep, t, k o ho, r⟩, nd⟩
theorem SetT.there {w : World} {h : Heap} {a : Addr} {ks : List Str} (R : SetT w h a ks) : ∃ o, h.get? a = some o := by
  obtain ⟨⟨o, _, _, _, ho, _⟩, _⟩ := R
  exact ⟨o, ho⟩
abbrev emptySet (w : World) : Obj := { cls := .type "set", dict := none, data := .set #[] 0 (.fresh 0 0 (!w.params.followText "set-order")) }
theorem SetT.fresh {w : World} {h : Heap} {a : Addr} (ho : h.get? a = some (emptySet w)) : SetT w h a [] := by
  refine ⟨⟨_, #[], 0, _, ho, ⟨rfl, rfl, rfl⟩, rfl, fun e he => by simp at he, by simp, by decide, by rfl, List.Pairwise.nil, ?_⟩, List.nodup_nil⟩
  show _ ∨ (!w.params.followText "set-order") = true
  cases w.params.followText "set-order" <;> simp
section
variable {P : Program} {w : World} {A : Around} {E : Value → Shared → Prop} {s : Shared} {a : Addr} {ks : List Str}
theorem txe_elems {l : List (Int × Value)} (g : ∀ e ∈ l, TxE w e) : ElemsOf (mixKind P w) l := fun e he => by
  obtain ⟨x, t, rfl⟩ := g e he
  exact ⟨⟨.inr x, mixKind_str P w x t, rfl⟩, rfl⟩
theorem txe_is {l : List (Int × Value)} (g : ∀ e ∈ l, TxE w e) (x : Str) : (∃ e ∈ l, (mixKind P w).is (.inr x) e.2 = true) ↔ x ∈ l.map fun e => txOf e.2 := by
  rw [List.mem_map]
  refine ⟨fun ⟨e, he, q⟩ => ⟨e, he, ?_⟩, fun ⟨e, he, q⟩ => ⟨e, he, ?_⟩⟩
  · obtain ⟨y, t, rfl⟩ := g e he
    rcases keyIs_shape (show keyIs (.inr x) (.str y t) = true from q) with ⟨i, u, _, z⟩ | ⟨z, u, e1, e2⟩
    · cases z
    · cases e1; cases e2; rfl
  · obtain ⟨y, t, rfl⟩ := g e he
    have q : y = x := q
    subst q
    exact mixKind_str P w y t
/-- what is left of an add once the new element is laid: the store, and perhaps a greater table -/
theorem grow_tail {gw : Bool → Sem Unit} (hgw : ∀ (b : Bool) (s1 : Shared) (Q' : Unit → Shared → Prop), Q' () s1 → wpAny (model P w) A (gw b) Q' E s1)
    {o : Obj} {es : Array (Int × Value)} {ep : Nat} {t : SetTable} (ho : s.heap.get? a = some o) (hex : o.ExactSet) (hd : o.data = .set es ep t) {es1 : Array (Int × Value)} {t2 : SetTable}
    (g1 : ∀ e ∈ es1.toList, TxE w e) (pm : (es1.toList.map fun e => txOf e.2).Perm ks) (nd : ks.Nodup) (b1 : es1.size < scanBound) (f2 : t2.fits es1.size = true) (r2 : Ris t2.place.toList)
    (l2 : w.params.followText "set-order" = true ∨ t2.led = true) {wasDummy : Bool} {R : Option Bool → Shared → Prop}
    (hR : ∀ h', Heap.SameBut a s.heap h' → SetT w h' a ks → R (some true) { s with heap := h' }) :
    wpAny (model P w) A (do
      storeSet a es1 t2
      if (!wasDummy && t2.tooFull) = true then
        (do gw (relayAll t2 es1 (SetTable.grown es1.size)).2.2
            storeSet a (relayAll t2 es1 (SetTable.grown es1.size)).1 (relayAll t2 es1 (SetTable.grown es1.size)).2.1
            pure (some true))
      else pure (some true)) R E s := by
  have sb1 := Heap.SameBut.update s.heap a (Obj.putSet es1 t2)
  have ho1 := store_at (es' := es1) (t' := t2) ho hd
  refine wpAny_bind (wpAny_storeSet_of ho hd ?_ (fits_of_scanBound b1))
  split
  · have q1 := relayAll_perm t2 es1 (SetTable.grown es1.size)
    have q2 := relayAll_fits t2 es1 (SetTable.grown es1.size)
    have q3 := relayAll_ris t2 es1 (SetTable.grown es1.size)
    have q4 := relayAll_led t2 es1 (SetTable.grown es1.size)
    revert q1 q2 q3 q4
    obtain ⟨es2, t3, gave⟩ := relayAll t2 es1 (SetTable.grown es1.size)
    intro q1 q2 q3 q4
    have sz : es2.size = es1.size := by simpa using q1.length_eq
    have b2 : es2.size < scanBound := by rw [sz]; exact b1
    refine wpAny_bind (hgw _ _ _ (wpAny_bind (wpAny_storeSet_of ho1 rfl ?_ (fits_of_scanBound b2))))
    have ho2 := store_at (es' := es2) (t' := t3) ho1 rfl
    exact wpAny_pure (hR _ (sb1.trans (Heap.SameBut.update _ a _)) ⟨⟨_, es2, _, t3, ho2, hex, rfl, fun e he => g1 e (q1.mem_iff.mp he), (q1.map _).trans pm, b2, q2, q3, l2.imp id fun z => q4.trans z⟩, nd⟩)
  · exact wpAny_pure (hR _ sb1 ⟨⟨_, es1, _, t2, ho1, hex, rfl, g1, pm, b1, f2, r2, l2⟩, nd⟩)
set_option maxHeartbeats 1000000 in
theorem addT_hashed {x : Str} {tk : Tok} {Q : Bool → Shared → Prop} (R : SetT w s.heap a ks) (room : ks.length + 1 < scanBound)
    (hQ : ∀ b h', Heap.SameBut a s.heap h' → SetT w h' a (addT ks x) → Q b { s with heap := h' }) : wpAny (model P w) A (setAddHashed a (.str x tk) (hashStr w x)) Q E s := by
  obtain ⟨⟨o, es, ep, t, ho, hex, hd, g, pm, hb, hf, hr, hl⟩, nd⟩ := R
  have hsc : (Value.str x tk).scannable = true := rfl
  have hkey : (mixKind P w).is (.inr x) (.str x tk) = true := mixKind_str P w x tk
  have hel : ElemsOf (mixKind P w) es.toList := txe_elems g
  unfold setAddHashed setAddHashedIn; refine wpAny_holding (wpAny_bind (wpAny_setState_of ho hd hf ?_))
  dsimp only
  rw [byScan_of hsc hb hel]; simp only [↓reduceIte]
  unfold setAddByScan; refine wpAny_bind (wpAny_bind (wpAny_rule (wpAny_bind (wpAny_setScan_of hkey ho hd hf hel ?_))))
  cases hfi : List.findIdx? (fun e => (mixKind P w).is (.inr x) e.2) es.toList with
  | some j =>
    dsimp only
    obtain ⟨hj, pj, _⟩ := List.findIdx?_eq_some_iff_getElem.mp hfi
    have hx : x ∈ ks := pm.mem_iff.mp ((txe_is (P := P) g x).mp ⟨es.toList[j], List.getElem_mem hj, pj⟩)
    refine wpAny_pure (wpAny_pure (hQ false s.heap (Heap.SameBut.refl a s.heap) ?_))
    unfold addT
    rw [if_pos hx]
    exact ⟨⟨o, es, ep, t, ho, hex, hd, g, pm, hb, hf, hr, hl⟩, nd⟩
  | none =>
    dsimp only
    have hx : x ∉ ks := fun z => by
      obtain ⟨e, he, q⟩ := (txe_is (P := P) g x).mpr (pm.mem_iff.mpr z)
      rw [List.findIdx?_eq_none_iff.mp hfi e he] at q
      cases q
    have q1 := layNew_perm t es (hashStr w x) (.str x tk)
    have q2 := layNew_fits t es (hashStr w x) (.str x tk)
    have q3 := layNew_ris t es (hashStr w x) (.str x tk) hr
    have q4 := layNew_led t es (hashStr w x) (.str x tk)
    revert q1 q2 q3 q4
    obtain ⟨es1, t1, wasDummy, gave⟩ := layNew t es (hashStr w x) (.str x tk)
    intro q1 q2 q3 q4
    dsimp only at q1 q2 q3 q4 ⊢
    rw [Array.toList_push] at q1
    have pc : es1.toList.Perm ((hashStr w x, Value.str x tk) :: es.toList) := q1.trans (List.perm_append_singleton _ _)
    have g1 : ∀ e ∈ es1.toList, TxE w e := fun e he => by
      rcases List.mem_cons.mp (pc.mem_iff.mp he) with z | z
      · exact ⟨x, tk, z⟩
      · exact g e z
    have p1 : (es1.toList.map fun e => txOf e.2).Perm (ks ++ [x]) := ((pc.map fun e : Int × Value => txOf e.2).trans (pm.cons x)).trans (List.perm_append_singleton x ks).symm
    have nd1 : (ks ++ [x]).Nodup := List.nodup_append.mpr ⟨nd, by simp, fun y hy z hz => by
      rw [List.mem_singleton.mp hz]
      rintro rfl
      exact hx hy⟩
    have b1 : es1.size < scanBound := by
      have := p1.length_eq
      rw [List.length_map, List.length_append, List.length_singleton, Array.length_toList] at this
      omega
    have l1 : w.params.followText "set-order" = true ∨ t1.led = true := hl.imp id fun z => q4.trans z
    have fin : ∀ h', Heap.SameBut a s.heap h' → SetT w h' a (ks ++ [x]) → Q true { s with heap := h' } := fun h' sb r => hQ true h' sb (by
      unfold addT
      rw [if_neg hx]
      exact r)
    have gw : ∀ (b : Bool) {s1 : Shared} {Q' : Unit → Shared → Prop}, Q' () s1 → wpAny (model P w) A (match b with | true => rule "set.scan.the-table-gave-way" | false => pure ()) Q' E s1 := fun b s1 Q' q => by
      cases b
      · exact wpAny_pure q
      · exact wpAny_rule q
    refine wpAny_bind (gw _ ?_)
    split
    · refine wpAny_bind ?_
      rw [hashByValue_scannable 8 hsc]
      refine wpAny_pure (grow_tail (fun b s1 Q' q => gw b q) ho hex hd g1 p1 nd1 b1 ?_ ?_ ?_ fun h' sb r => wpAny_pure (fin h' sb r))
      · first | (split <;> first | exact q2 | exact SetTable.fits_plain_off q2) | exact q2
      · first | (split <;> exact q3) | exact q3
      · first | (split <;> exact l1) | exact l1
    · refine wpAny_bind (wpAny_pure ?_)
      simp only [↓reduceIte]
      exact grow_tail (fun b s1 Q' q => gw b q) ho hex hd g1 p1 nd1 b1 q2 q3 l1 fun h' sb r => wpAny_pure (fin h' sb r)

/-- found.add(x) -/
theorem addT_call {x : Str} {tk : Tok} {Q : Value → Shared → Prop} (R : SetT w s.heap a ks) (room : ks.length + 1 < scanBound)
    (hQ : ∀ h', Heap.SameBut a s.heap h' → SetT w h' a (addT ks x) → Q .none { s with heap := h', toks := s.toks + 1 }) : wpAny (model P w) A (call (.builtin "set.add") [.ref a, .str x tk]) Q E s := by
  have ty : s.TypeIs (.ref a) "set" := by
    obtain ⟨⟨o, es, ep, t, ho, hex, _⟩, _⟩ := R
    exact ⟨o, ho, hex.1⟩
  refine wpAny_call_entry F.slot_set_add ty F.entry_set_add ?_ (F.args_set_add_2 _ _)
  unfold Builtin.«set.add» Builtin.Frozenset.oneOther; simp only [List.isEmpty_nil, bind_assoc]
  unfold Builtin.Frozenset.addrOf setAdd; refine wpAny_bind (wpAny_pure ?_); try dsimp only
  refine wpAny_bind (wpAny_pure ?_); try dsimp only
  refine wpAny_bind (wpAny_holding (wpAny_bind (wpAny_pyHash_str ?_)))
  refine addT_hashed (s := { s with toks := s.toks + 1 }) R room fun b h' sb r => ?_
  show wpAny _ _ (ret Value.none) _ _ _
  exact wpAny_pure ⟨_, rfl, hQ h' sb r⟩
theorem addT_len (ks : List Str) (x : Str) : (addT ks x).length ≤ ks.length + 1 := by
  unfold addT
  split <;> simp
/-- set(texts): the loop -/
theorem update_texts {I : Addr} {fp wr : List Addr} {G : Array GenState → Array GenState → Prop} {n : Nat} {Pv : Nat → Value → Prop} {St : Nat → Shared → Prop} {R : Result → Shared → Prop}
    (W : WalksS P w A.in1 I fp wr G n Pv St) (S : Addr) (hSf : S ∉ fp) (xs : List Str) (hn : n = xs.length) (hb : xs.length + 1 < scanBound) (hval : ∀ i v, Pv i v → ∃ x t, xs[i]? = some x ∧ v = .str x t) :
    ∀ (k i : Nat) (s : Shared) (ks : List Str), n - i = k → i ≤ n → St i s → ks.length ≤ i → SetT w s.heap S ks →
      (∀ s', Moved (S :: wr) G s s' → SetT w s'.heap S ((xs.drop i).foldl addT ks) → R (.ok (.ret .none)) s') → codeAny (model P w) A (.builtin "set.update.loop" ⟨[.ref S, .ref I], []⟩) R s := by
  have hSw : S ∉ wr := fun h => hSf (W.sub _ h)
  intro k
  induction k with
  | zero =>
    intro i s ks hk hi hst hl hS hR
    obtain rfl : i = n := by omega
    refine codeAny_builtin F.entry_set_update_loop ?_; rw [Around.under_plainId F.plain_set_update_loop _]
    show wpAny _ A.in1 (pyNext (.ref I) >>= _) _ _ s
    refine wpAny_bind (W.done s _ _ hst fun s' hm => ?_)
    show wpAny _ A.in1 (ret Value.none) _ _ s'
    refine wpAny_pure (hR s' (hm.mono fun b hb => List.mem_cons_of_mem _ hb) ?_)
    rw [List.drop_eq_nil_of_le (by omega)]
    exact hS.move fun o e => hm.heap S o hSw e
  | succ k ih =>
    intro i s ks hk hi hst hl hS hR
    have lt : i < n := by omega
    refine codeAny_builtin F.entry_set_update_loop ?_; rw [Around.under_plainId F.plain_set_update_loop _]
    show wpAny _ A.in1 (pyNext (.ref I) >>= _) _ _ s
    refine wpAny_bind (W.item i s _ _ lt hst fun v s' hP hst' hm => ?_)
    obtain ⟨x, t, hx, rfl⟩ := hval i v hP
    show wpAny _ A.in1 (holding [Value.str x t] (setAdd S (.str x t)) >>= _) _ _ s'
    refine wpAny_bind (wpAny_holding ?_); unfold setAdd
    refine wpAny_holding (wpAny_bind (wpAny_pyHash_str ?_))
    refine addT_hashed (s := { s' with toks := s'.toks + 1 }) (hS.move fun o e => hm.heap S o hSw e) (by omega) fun b h' sb r => ?_
    have fr : St (i + 1) { s' with heap := h', toks := s'.toks + 1 } := W.frame _ s' _ _ hst' (Nat.le_succ _) fun b hb o e => (sb.2 b fun z => hSf (z ▸ hb)).trans e
    refine wpAny_pure ⟨plainId_quiet F.plain_set_update_loop _, ih (i + 1) _ (addT ks x) (by omega) lt fr (Nat.le_trans (addT_len ks x) (by omega)) r fun s2 m2 r2 => hR s2 ?_ ?_⟩
    · exact Moved.trans W.gtrans ((hm.mono fun b hb => List.mem_cons_of_mem _ hb).then_heap (Nat.le_succ _) fun b o hb e => (sb.2 b fun z => hb (by rw [z]; exact List.mem_cons_self)).trans e) m2
    · have li : i < xs.length := by omega
      have ex : xs[i] = x := by rw [List.getElem?_eq_getElem li] at hx; exact Option.some.inj hx
      rw [List.drop_eq_getElem_cons li, ex]
      exact r2
/-- what set(..) makes of texts -/
abbrev setsOf (xs : List Str) : List Str := xs.foldl addT []

set_option maxHeartbeats 4000000 in
theorem set_tuple {l : Addr} {items : Array Value} {xs : List Str} {Q : Value → Shared → Prop} (hh : A.handled = none) (hl : s.heap.IsTuple l items) (hit : items.size = xs.length) (hval : ∀ (i : Nat) (v : Value), items[i]? = some v → ∃ x t, xs[i]? = some x ∧ v = Value.str x t)
    (hb : xs.length + 1 < scanBound) (h : ∀ h' tk, SetT w h' s.heap.objs.size (setsOf xs) → (∀ b o, s.heap.get? b = some o → h'.get? b = some o) → Q (.ref s.heap.objs.size) { s with heap := h', toks := tk }) :
    wpAny (model P w) A (call (.type "set") [.ref l]) Q E s := by
  obtain ⟨c, tl, hmro⟩ := F.called_set.mro
  have hmade := F.called_set.made
  have hsub := F.called_set.sub
  refine wpAny_call (codeAny_of_tree ?_)
  show wpAny _ _ (callAny (.type "set") _) _ _ _
  refine wpAny_pure ⟨Code.quiet_builtin _ (by decide +kernel), codeAny_builtin F.entry_type_call ?_⟩; rw [Around.under_plain (weight_type_call_type "set" [.ref l] []) rfl]
  have h1 := F.called_set.notType
  have h2 := F.called_set.canCreate
  have hct := F.typeCall_set_1 (.ref l)
  repeat (any_goals (first | assumption | wp_step))
  have z0 : ∀ b o, s.heap.get? b = some o → b < s.heap.objs.size := fun b o e => Heap.lt_size e
  refine codeAny_mono (code_set_led1 (.ref l) (E := E) (Q₁ := fun obj s₁ => obj = .ref s.heap.objs.size ∧ s₁ = { s with heap := s.heap.push (emptySet w) }) ⟨rfl, rfl⟩) fun r s₁ hr => ?_
  cases r with
  | error e => exact hr
  | ok fl =>
    cases fl with
    | ret obj =>
      obtain ⟨rfl, rfl⟩ := hr
      have hS : (s.heap.push (emptySet w)).get? s.heap.objs.size = some (emptySet w) := Heap.get?_push_size _ rfl
      have hT : Shared.TypeIs { s with heap := s.heap.push (emptySet w) } (.ref s.heap.objs.size) "set" := ⟨_, hS, rfl⟩
      have hli := F.called_set.init.lookup
      have hbi := F.called_set.init.bind (.ref s.heap.objs.size)
      repeat (any_goals (first | assumption | wp_step))
      refine codeAny_mono (codeAny_call_builtin (R := wants (fun r s₂ => r = .none ∧ ∃ h' tk, s₂ = { s with heap := h', toks := tk } ∧ SetT w h' s.heap.objs.size (setsOf xs) ∧ ∀ b o, s.heap.get? b = some o → h'.get? b = some o) E)
        F.called_set.init.plain F.entry_set_init (check_set_init_1 hT ?_)) fun r₂ s₂ hr₂ => ?_
      · obtain ⟨⟨ocls, odict, odata, oslots⟩, hol, hcl, nl, hdl⟩ := hl
        simp only at hcl hdl
        subst hcl hdl
        have hol' : (s.heap.push (emptySet w)).get? l = some { cls := .type "tuple", dict := odict, data := .seq items nl, slots := oslots } := Heap.get?_push_of_some _ hol
        have hsls := F.sub_tuple_set
        have hslf := F.sub_tuple_frozenset
        have hne : (Value.type "tuple" == Value.type "dict") = false := by decide
        have hl1 : (s.heap.push (emptySet w)).IsTuple l items := ⟨_, hol', rfl, nl, rfl⟩
        unfold Builtin.«set.__init__» noKeywords Builtin.Frozenset.updateFrom
        generalize hPI : pyIter = PI
        wp_walk
        subst hPI
        refine wpAny_pyIter_tuple hl1 (wpAny_bind (wpAny_runValue ?_))
        have lt := z0 _ _ hol
        have sz : (s.heap.push (emptySet w)).objs.size = s.heap.objs.size + 1 := Heap.size_push ..
        have hI : l ≠ (s.heap.push (emptySet w)).objs.size := by rw [sz]; exact Nat.ne_of_lt (Nat.lt_succ_of_lt lt)
        have hSf : s.heap.objs.size ∉ [(s.heap.push (emptySet w)).objs.size, l] := by
          rw [sz]
          simp only [List.mem_cons, List.not_mem_nil, or_false, not_or]
          exact ⟨Nat.ne_of_lt (Nat.lt_succ_self _), Nat.ne_of_gt lt⟩
        refine update_texts ((Walks.tuple (by simp [hh]) _ l hI items).toS) s.heap.objs.size hSf xs hit hb hval (items.size - 0) 0 _ [] (by omega) (Nat.zero_le _)
          ⟨⟨_, Heap.get?_push_size _ rfl, rfl, rfl⟩, hl1.push _⟩ (Nat.le_refl 0) (SetT.fresh (Heap.get?_push_of_some _ hS)) fun s' hm hS' => ?_
        obtain ⟨h', g2, d', tk', os'⟩ := s'
        obtain rfl : g2 = s.gens := hm.gens
        obtain rfl : d' = s.drawn := hm.drawn
        obtain rfl : os' = s.os := hm.os
        show wpAny _ _ _ _ _ _
        refine wpAny_pure ?_
        show wpAny _ _ (ret Value.none) _ _ _
        refine wpAny_pure ⟨rfl, h', tk', rfl, hS', fun b o e => hm.heap b o ?_ (Heap.get?_push_of_some _ (Heap.get?_push_of_some _ e))⟩
        have := z0 b o e
        rw [sz]
        simp only [List.mem_cons, List.not_mem_nil, or_false, not_or]
        exact ⟨Nat.ne_of_lt this, Nat.ne_of_lt (Nat.lt_succ_of_lt this)⟩
      · cases r₂ with
        | error e => exact hr₂
        | ok fl₂ =>
          cases fl₂ with
          | ret r =>
            obtain ⟨rfl, h', tk, rfl, hS', hkp⟩ := hr₂
            have q := h h' tk hS' hkp
            repeat (any_goals (first | assumption | wp_step))
          | _ => exact hr₂.elim
    | _ => exact hr.elim

set_option maxHeartbeats 4000000 in
theorem set_list {l : Addr} {items : Array Value} {xs : List Str} {Q : Value → Shared → Prop} (hh : A.handled = none) (hl : s.heap.IsList l items) (hit : items.size = xs.length) (hval : ∀ (i : Nat) (v : Value), items[i]? = some v → ∃ x t, xs[i]? = some x ∧ v = Value.str x t)
    (hb : xs.length + 1 < scanBound) (h : ∀ h' tk, SetT w h' s.heap.objs.size (setsOf xs) → (∀ b o, s.heap.get? b = some o → h'.get? b = some o) → Q (.ref s.heap.objs.size) { s with heap := h', toks := tk }) :
    wpAny (model P w) A (call (.type "set") [.ref l]) Q E s := by
  obtain ⟨c, tl, hmro⟩ := F.called_set.mro
  have hmade := F.called_set.made
  have hsub := F.called_set.sub
  refine wpAny_call (codeAny_of_tree ?_)
  show wpAny _ _ (callAny (.type "set") _) _ _ _
  refine wpAny_pure ⟨Code.quiet_builtin _ (by decide +kernel), codeAny_builtin F.entry_type_call ?_⟩; rw [Around.under_plain (weight_type_call_type "set" [.ref l] []) rfl]
  have h1 := F.called_set.notType
  have h2 := F.called_set.canCreate
  have hct := F.typeCall_set_1 (.ref l)
  repeat (any_goals (first | assumption | wp_step))
  have z0 : ∀ b o, s.heap.get? b = some o → b < s.heap.objs.size := fun b o e => Heap.lt_size e
  refine codeAny_mono (code_set_led1 (.ref l) (E := E) (Q₁ := fun obj s₁ => obj = .ref s.heap.objs.size ∧ s₁ = { s with heap := s.heap.push (emptySet w) }) ⟨rfl, rfl⟩) fun r s₁ hr => ?_
  cases r with
  | error e => exact hr
  | ok fl =>
    cases fl with
    | ret obj =>
      obtain ⟨rfl, rfl⟩ := hr
      have hS : (s.heap.push (emptySet w)).get? s.heap.objs.size = some (emptySet w) := Heap.get?_push_size _ rfl
      have hT : Shared.TypeIs { s with heap := s.heap.push (emptySet w) } (.ref s.heap.objs.size) "set" := ⟨_, hS, rfl⟩
      have hli := F.called_set.init.lookup
      have hbi := F.called_set.init.bind (.ref s.heap.objs.size)
      repeat (any_goals (first | assumption | wp_step))
      refine codeAny_mono (codeAny_call_builtin (R := wants (fun r s₂ => r = .none ∧ ∃ h' tk, s₂ = { s with heap := h', toks := tk } ∧ SetT w h' s.heap.objs.size (setsOf xs) ∧ ∀ b o, s.heap.get? b = some o → h'.get? b = some o) E)
        F.called_set.init.plain F.entry_set_init (check_set_init_1 hT ?_)) fun r₂ s₂ hr₂ => ?_
      · obtain ⟨⟨ocls, odict, odata, oslots⟩, hol, hcl, nl, hdl⟩ := hl
        simp only at hcl hdl
        subst hcl hdl
        have hol' : (s.heap.push (emptySet w)).get? l = some { cls := .type "list", dict := odict, data := .seq items nl, slots := oslots } := Heap.get?_push_of_some _ hol
        have hsls := F.sub_list_set
        have hslf := F.sub_list_frozenset
        have hne : (Value.type "list" == Value.type "dict") = false := by decide
        have hl1 : (s.heap.push (emptySet w)).IsList l items := ⟨_, hol', rfl, nl, rfl⟩
        unfold Builtin.«set.__init__» noKeywords Builtin.Frozenset.updateFrom
        generalize hPI : pyIter = PI
        wp_walk
        subst hPI
        refine wpAny_pyIter_list hl1 (wpAny_bind (wpAny_runValue ?_))
        have lt := z0 _ _ hol
        have sz : (s.heap.push (emptySet w)).objs.size = s.heap.objs.size + 1 := Heap.size_push ..
        have hI : l ≠ (s.heap.push (emptySet w)).objs.size := by rw [sz]; exact Nat.ne_of_lt (Nat.lt_succ_of_lt lt)
        have hSf : s.heap.objs.size ∉ [(s.heap.push (emptySet w)).objs.size, l] := by
          rw [sz]
          simp only [List.mem_cons, List.not_mem_nil, or_false, not_or]
          exact ⟨Nat.ne_of_lt (Nat.lt_succ_self _), Nat.ne_of_gt lt⟩
        refine update_texts ((Walks.list (by simp [hh]) _ l hI items).toS) s.heap.objs.size hSf xs hit hb hval (items.size - 0) 0 _ [] (by omega) (Nat.zero_le _)
          ⟨⟨_, Heap.get?_push_size _ rfl, rfl, rfl⟩, hl1.push _⟩ (Nat.le_refl 0) (SetT.fresh (Heap.get?_push_of_some _ hS)) fun s' hm hS' => ?_
        obtain ⟨h', g2, d', tk', os'⟩ := s'
        obtain rfl : g2 = s.gens := hm.gens
        obtain rfl : d' = s.drawn := hm.drawn
        obtain rfl : os' = s.os := hm.os
        show wpAny _ _ _ _ _ _
        refine wpAny_pure ?_
        show wpAny _ _ (ret Value.none) _ _ _
        refine wpAny_pure ⟨rfl, h', tk', rfl, hS', fun b o e => hm.heap b o ?_ (Heap.get?_push_of_some _ (Heap.get?_push_of_some _ e))⟩
        have := z0 b o e
        rw [sz]
        simp only [List.mem_cons, List.not_mem_nil, or_false, not_or]
        exact ⟨Nat.ne_of_lt this, Nat.ne_of_lt (Nat.lt_succ_of_lt this)⟩
      · cases r₂ with
        | error e => exact hr₂
        | ok fl₂ =>
          cases fl₂ with
          | ret r =>
            obtain ⟨rfl, h', tk, rfl, hS', hkp⟩ := hr₂
            have q := h h' tk hS' hkp
            repeat (any_goals (first | assumption | wp_step))
          | _ => exact hr₂.elim
    | _ => exact hr.elim
end
end FH

/-! A machine over plain data beside the hand layer: values DV (tuples by value), a heap of lists, dicts and instances, what a machine's step says of the layer's readings. -/
namespace FH
open PySem PySem.Spec PyProof.Rows L2

/-! ### values and objects -/
inductive DV where
  | non | bl (b : Bool) | int (i : Int) | str (cs : List Nat) | tup (xs : List DV) | loc (l : Nat) | cn (c : Nat) | opq | act

inductive DO where
  | lst (fz : Bool) (xs : List DV)
  | dK (fz : Bool) (kvs : List (DV × DV))
  | dT (fz : Bool) (kvs : List (List DV × DV))
  | ins (c : Nat) (fs : List (Nat × DV))
  | sT (ks : List (List Nat))

/-- a tree of objects by number -/
inductive Tr where
  | nil
  | node (o : Option DO) (l r : Tr)
def Tr.o : Tr → Option DO
  | .nil => none
  | .node o _ _ => o
def Tr.l : Tr → Tr
  | .nil => .nil
  | .node _ l _ => l
def Tr.r : Tr → Tr
  | .nil => .nil
  | .node _ _ r => r
def Tr.get : Tr → Nat → Option DO
  | .nil, _ => none
  | .node o l r, i => cond (Nat.beq i 0) o (cond (Nat.beq (Nat.mod i 2) 0) (r.get (Nat.div (Nat.sub i 1) 2)) (l.get (Nat.div (Nat.sub i 1) 2)))
/-- fuel: more than the number of binary digits -/
def Tr.set : Nat → Tr → Nat → DO → Tr
  | 0, t, _, _ => t
  | f + 1, t, i, x => cond (Nat.beq i 0) (.node (some x) t.l t.r)
      (cond (Nat.beq (Nat.mod i 2) 0) (.node t.o t.l (Tr.set f t.r (Nat.div (Nat.sub i 1) 2) x)) (.node t.o (Tr.set f t.l (Nat.div (Nat.sub i 1) 2) x) t.r))
theorem Tr.get_any (t : Tr) (i : Nat) : t.get i = cond (Nat.beq i 0) t.o (cond (Nat.beq (Nat.mod i 2) 0) (t.r.get (Nat.div (Nat.sub i 1) 2)) (t.l.get (Nat.div (Nat.sub i 1) 2))) := by
  cases t with
  | nil => simp [Tr.get, Tr.o, Tr.l, Tr.r, cond]; split <;> first | rfl | (split <;> rfl)
  | node o l r => rfl
theorem Tr.get_node (o : Option DO) (l r : Tr) (i : Nat) : (Tr.node o l r).get i = cond (Nat.beq i 0) o (cond (Nat.beq (Nat.mod i 2) 0) (r.get (Nat.div (Nat.sub i 1) 2)) (l.get (Nat.div (Nat.sub i 1) 2))) := rfl
theorem beq0 (i : Nat) : Nat.beq i 0 = decide (i = 0) := by cases i <;> simp [Nat.beq]
theorem mod2 (i : Nat) : Nat.mod i 2 = i % 2 := rfl
theorem div2 (i : Nat) : Nat.div (Nat.sub i 1) 2 = (i - 1) / 2 := rfl
theorem Tr.get_set : ∀ (f : Nat) (t : Tr) (i j : Nat) (x : DO), i + 1 < 2 ^ f → (Tr.set f t i x).get j = if j = i then some x else t.get j
  | 0, t, i, j, x, h => by simp at h
  | f + 1, t, i, j, x, h => by
    have e : 2 ^ (f + 1) = 2 ^ f + 2 ^ f := by rw [Nat.pow_succ]; omega
    rw [Tr.get_any t j]
    unfold Tr.set
    simp only [beq0, mod2, div2]
    by_cases hi : i = 0
    · subst hi
      simp only [decide_true, cond_true]
      rw [Tr.get_node]
      simp only [beq0, mod2, div2]
      by_cases hj : j = 0
      · subst hj; simp
      · simp [hj]
    · rw [decide_eq_false hi, cond_false]
      by_cases hp : i % 2 = 0
      · rw [decide_eq_true hp, cond_true, Tr.get_node]
        simp only [beq0, mod2, div2]
        by_cases hj : j = 0
        · subst hj; simp [Ne.symm hi]
        · rw [decide_eq_false hj, cond_false, cond_false]
          by_cases hq : j % 2 = 0
          · rw [decide_eq_true hq, cond_true, cond_true, Tr.get_set f t.r ((i - 1) / 2) ((j - 1) / 2) x (by omega)]
            by_cases q : j = i
            · subst q; simp
            · rw [if_neg q, if_neg (by omega)]
          · rw [decide_eq_false hq, cond_false, cond_false, if_neg (by rintro rfl; exact hq hp)]
      · rw [decide_eq_false hp, cond_false, Tr.get_node]
        simp only [beq0, mod2, div2]
        by_cases hj : j = 0
        · subst hj; simp [Ne.symm hi]
        · rw [decide_eq_false hj, cond_false, cond_false]
          by_cases hq : j % 2 = 0
          · rw [decide_eq_true hq, cond_true, cond_true, if_neg (by rintro rfl; exact hp hq)]
          · rw [decide_eq_false hq, cond_false, cond_false, Tr.get_set f t.l ((i - 1) / 2) ((j - 1) / 2) x (by omega)]
            by_cases q : j = i
            · subst q; simp
            · rw [if_neg q, if_neg (by omega)]

structure DH where
  t : Tr
  n : Nat
def DH.get (D : DH) (l : Nat) : Option DO := D.t.get l
abbrev bigN : Nat := 1099511627776
def DH.put (D : DH) (l : Nat) (o : DO) : DH := ⟨Tr.set 41 D.t l o, D.n⟩
def DH.add (D : DH) (o : DO) : DH := ⟨Tr.set 41 D.t D.n o, Nat.succ D.n⟩
theorem big_pow : bigN + bigN = 2 ^ 41 := by decide +kernel
theorem DH.get_put {D : DH} {l j : Nat} {o : DO} (h : l < bigN) : (D.put l o).get j = if j = l then some o else D.get j :=
  Tr.get_set 41 D.t l j o (by have := big_pow; omega)
theorem DH.get_add {D : DH} {j : Nat} {o : DO} (h : D.n < bigN) : (D.add o).get j = if j = D.n then some o else D.get j :=
  Tr.get_set 41 D.t D.n j o (by have := big_pow; omega)

/-- a step's result -/
inductive R (α : Type) where
  | ok (a : α) (D : DH)
  | bad
/-- a statement's -/
inductive RS where
  | nx (σ : List (Option DV)) (D : DH)
  | rt (d : DV) (D : DH)
  | bk (σ : List (Option DV)) (D : DH)
  | ct (σ : List (Option DV)) (D : DH)
  | bad
abbrev DL := List (Option DV)
abbrev ME := DL → DH → R DV
abbrev MA := DL → DH → R (List DV)
abbrev MT := DL → DH → R Bool
abbrev MS := DL → DH → RS

/-! ### what the data say of the layer's values and heap -/
structure Tb where
  P : Program
  w : World
  K : PySem.W.Frag
  mg : Str → Option Value
  base : Heap
  cls : Nat → Addr
  fld : Nat → Str
  nf : Nat
  nc : Nat
  fns : Nat → Addr
  /-- the function that a def of ours got as an argument, the values that it has captured -/
  act : Addr
  capD : List DV
  capV : List V
  actC : Addr
  actQ : Str
  /-- the tables of the code objects in which lambdas are made, the lambdas' names -/
  tabs : List (Addr × Str)
  inj : ∀ i j, i < nf → j < nf → fld i = fld j → i = j

/-- the built-in types that are named, by number; a constant: a type, a class (16 and more), a def (1016 and more) -/
def tyN : Nat → String
  | 0 => "int" | 1 => "str" | 2 => "bool" | 3 => "tuple" | 4 => "list" | 5 => "dict" | _ => "NoneType"
def Tb.con (T : Tb) (c : Nat) : Option V := cond (Nat.blt c 16) (some (.ty (tyN c))) (cond (Nat.blt c 1016) (some (.ref (T.cls (Nat.sub c 16)))) (some (.ref (T.fns (Nat.sub c 1016)))))

mutual
def VR (T : Tb) (ρ : List Addr) (H : Hp) : DV → V → Prop
  | .non, v => v = .non
  | .bl b, v => v = .bl b
  | .int i, v => v = .int i
  | .str cs, v => v = .str ⟨cs.toArray⟩
  | .tup xs, v => ∃ a vs, v = .ref a ∧ SqT T.K H a vs ∧ VRs T ρ H xs vs
  | .loc l, v => ∃ a, ρ[l]? = some a ∧ v = .ref a
  | .cn c, v => T.con c = some v
  | .opq, _ => True
  | .act, _ => False
def VRs (T : Tb) (ρ : List Addr) (H : Hp) : List DV → List V → Prop
  | [], vs => vs = []
  | x :: xs, vs => ∃ v r, vs = v :: r ∧ VR T ρ H x v ∧ VRs T ρ H xs r
end

/-- a thing that is no code object -/
def NoCode (u : HO) : Prop := ∀ c q, u ≠ LamX.CodeO c q
abbrev stN (c : List Nat) : Str := ⟨c.toArray⟩
/-- the set of texts at a -/
def SetTO (w : World) (a : Addr) (ks : List Str) : HO := .ext fun h => SetT w h a ks
theorem setTO_code {w : World} {a : Addr} {ks : List Str} : NoCode (SetTO w a ks) := fun c q z => by
  have e := congrFun (HO.ext.inj z) ⟨Array.replicate (c + 1) { cls := .none, data := .fields #[.none, .str q 0] }, default⟩
  have h2 : ∃ (oc : Obj) (vs : Array Value) (t : Tok), (⟨Array.replicate (c + 1) { cls := .none, data := .fields #[.none, .str q 0] }, default⟩ : Heap).get? c = some oc ∧ oc.data = .fields vs ∧ vs[1]? = some (.str q t) :=
    ⟨{ cls := .none, data := .fields #[.none, .str q 0] }, #[.none, .str q 0], 0, Heap.get?_some_iff.mpr ⟨by rw [Array.getElem?_replicate, if_pos (Nat.lt_succ_self c)], rfl⟩, rfl, rfl⟩
  obtain ⟨⟨o, es, ep, t, ho, hex, hd, _⟩, _⟩ := cast e.symm h2
  have h3 := (Heap.get?_some_iff.mp ho).1
  rw [Array.getElem?_replicate] at h3
  split at h3
  · cases h3
    cases hd
  · cases h3
/-- what stays from one step to a later one -/
structure Up (ρ : List Addr) (H : Hp) (ρ' : List Addr) (H' : Hp) : Prop where
  pre : ρ <+: ρ'
  tup : ∀ a vs, H a = some (.tup vs) → H' a = some (.tup vs)
  frz : ∀ a o u, H a = some (.frz o u) → H' a = some (.frz o u)
  ext : ∀ a q, H a = some (LamX.CodeO a q) → H' a = some (LamX.CodeO a q)
theorem Up.refl (ρ : List Addr) (H : Hp) : Up ρ H ρ H := ⟨List.prefix_rfl, fun _ _ h => h, fun _ _ _ h => h, fun _ _ h => h⟩
theorem Up.trans {ρ ρ1 ρ2 : List Addr} {H H1 H2 : Hp} (a : Up ρ H ρ1 H1) (b : Up ρ1 H1 ρ2 H2) : Up ρ H ρ2 H2 :=
  ⟨a.pre.trans b.pre, fun x v h => b.tup x v (a.tup x v h), fun x o u h => b.frz x o u (a.frz x o u h), fun x f h => b.ext x f (a.ext x f h)⟩
theorem Up.at {ρ ρ' : List Addr} {H H' : Hp} (u : Up ρ H ρ' H') {l : Nat} {a : Addr} (h : ρ[l]? = some a) : ρ'[l]? = some a := by
  obtain ⟨r, rfl⟩ := u.pre
  rw [List.getElem?_append_left (List.getElem?_eq_some_iff.mp h).1]
  exact h
theorem Up.sqT {K : PySem.W.Frag} {ρ ρ' : List Addr} {H H' : Hp} (u : Up ρ H ρ' H') {a : Addr} {vs : List V} (h : SqT K H a vs) : SqT K H' a vs := by
  rcases h with (h | ⟨o, h⟩) | h
  · exact .inl (.inl (u.tup _ _ h))
  · exact .inl (.inr ⟨o, u.frz _ _ _ h⟩)
  · exact .inr h
mutual
theorem VR.up {T : Tb} {ρ ρ' : List Addr} {H H' : Hp} (u : Up ρ H ρ' H') : ∀ {d : DV} {v : V}, VR T ρ H d v → VR T ρ' H' d v
  | .non, v, h => h
  | .bl _, v, h => h
  | .int _, v, h => h
  | .str _, v, h => h
  | .tup xs, v, h => by
    obtain ⟨a, vs, e, s, r⟩ := h
    exact ⟨a, vs, e, u.sqT s, VRs.up u r⟩
  | .loc l, v, h => by
    obtain ⟨a, e, q⟩ := h
    exact ⟨a, u.at e, q⟩
  | .cn _, v, h => h
  | .opq, v, h => trivial
  | .act, v, h => h.elim
theorem VRs.up {T : Tb} {ρ ρ' : List Addr} {H H' : Hp} (u : Up ρ H ρ' H') : ∀ {ds : List DV} {vs : List V}, VRs T ρ H ds vs → VRs T ρ' H' ds vs
  | [], vs, h => h
  | x :: xs, vs, h => by
    obtain ⟨v, r, e, h1, h2⟩ := h
    exact ⟨v, r, e, VR.up u h1, VRs.up u h2⟩
end
theorem VRs.len {T : Tb} {ρ : List Addr} {H : Hp} : ∀ {ds : List DV} {vs : List V}, VRs T ρ H ds vs → vs.length = ds.length
  | [], vs, h => by subst h; rfl
  | x :: xs, vs, h => by
    obtain ⟨v, r, e, _, h2⟩ := h
    subst e
    simp [VRs.len h2]
theorem VRs.at {T : Tb} {ρ : List Addr} {H : Hp} : ∀ {ds : List DV} {vs : List V} {i : Nat} {d : DV}, VRs T ρ H ds vs → ds[i]? = some d → ∃ v, vs[i]? = some v ∧ VR T ρ H d v
  | [], _, _, _, _, e => by simp at e
  | x :: xs, vs, 0, d, h, e => by
    obtain ⟨v, r, q, h1, _⟩ := h
    simp at e; subst e; subst q
    exact ⟨v, rfl, h1⟩
  | x :: xs, vs, i + 1, d, h, e => by
    obtain ⟨v, r, q, _, h2⟩ := h
    subst q
    obtain ⟨u, h3, h4⟩ := VRs.at (i := i) (d := d) h2 (by simpa using e)
    exact ⟨u, by simpa using h3, h4⟩
theorem VRs.app {T : Tb} {ρ : List Addr} {H : Hp} : ∀ {ds es : List DV} {vs ws : List V}, VRs T ρ H ds vs → VRs T ρ H es ws → VRs T ρ H (ds ++ es) (vs ++ ws)
  | [], _, vs, _, h, h' => by subst h; exact h'
  | x :: xs, _, vs, _, h, h' => by
    obtain ⟨v, r, q, h1, h2⟩ := h
    subst q
    exact ⟨v, _, rfl, h1, VRs.app h2 h'⟩
theorem VRs.drop {T : Tb} {ρ : List Addr} {H : Hp} : ∀ {ds : List DV} {vs : List V} (n : Nat), VRs T ρ H ds vs → VRs T ρ H (ds.drop n) (vs.drop n)
  | _, _, 0, h => h
  | [], vs, n + 1, h => by subst h; exact rfl
  | x :: xs, vs, n + 1, h => by
    obtain ⟨v, r, q, h1, h2⟩ := h
    subst q
    exact VRs.drop n h2
theorem VRs.take {T : Tb} {ρ : List Addr} {H : Hp} : ∀ {ds : List DV} {vs : List V} (n : Nat), VRs T ρ H ds vs → VRs T ρ H (ds.take n) (vs.take n)
  | _, _, 0, h => rfl
  | [], vs, n + 1, h => by subst h; exact rfl
  | x :: xs, vs, n + 1, h => by
    obtain ⟨v, r, q, h1, h2⟩ := h
    subst q
    exact ⟨v, _, rfl, h1, VRs.take n h2⟩

/-- the slots -/
def OR (T : Tb) (ρ : List Addr) (H : Hp) : Option DV → Option V → Prop
  | none, _ => True
  | some d, o => ∃ v, o = some v ∧ (VR T ρ H d v ∨ d = .act ∧ v = .ref T.act ∧ VRs T ρ H T.capD T.capV ∧ H T.actC = some (LamX.CodeO T.actC T.actQ))
theorem OR.mk {T : Tb} {ρ : List Addr} {H : Hp} {d : DV} {v : V} (h : VR T ρ H d v) : OR T ρ H (some d) (some v) := ⟨v, rfl, .inl h⟩
def SR (T : Tb) (ρ : List Addr) (H : Hp) : DL → L2.St → Prop
  | [], σ => σ = []
  | d :: ds, σ => ∃ o r, σ = o :: r ∧ OR T ρ H d o ∧ SR T ρ H ds r
theorem OR.up {T : Tb} {ρ ρ' : List Addr} {H H' : Hp} (u : Up ρ H ρ' H') {d : Option DV} {o : Option V} (h : OR T ρ H d o) : OR T ρ' H' d o := by
  cases d with
  | none => trivial
  | some d =>
    obtain ⟨v, e, r⟩ := h
    rcases r with r | ⟨q1, q2, q3, q4⟩
    · exact ⟨v, e, .inl (r.up u)⟩
    · exact ⟨v, e, .inr ⟨q1, q2, q3.up u, u.ext _ _ q4⟩⟩
theorem SR.up {T : Tb} {ρ ρ' : List Addr} {H H' : Hp} (u : Up ρ H ρ' H') : ∀ {ds : DL} {σ : L2.St}, SR T ρ H ds σ → SR T ρ' H' ds σ
  | [], _, h => h
  | d :: ds, _, h => by
    obtain ⟨o, r, e, h1, h2⟩ := h
    exact ⟨o, r, e, h1.up u, SR.up u h2⟩
theorem SR.len {T : Tb} {ρ : List Addr} {H : Hp} : ∀ {ds : DL} {σ : L2.St}, SR T ρ H ds σ → σ.length = ds.length
  | [], _, h => by subst h; rfl
  | d :: ds, _, h => by
    obtain ⟨o, r, e, _, h2⟩ := h
    subst e
    simp [SR.len h2]
/-- a slot read -/
def lget : DL → Nat → Option DV
  | [], _ => none
  | d :: _, 0 => d
  | _ :: r, i + 1 => lget r i
theorem SR.at' {T : Tb} {ρ : List Addr} {H : Hp} : ∀ {ds : DL} {σ : L2.St} {i : Nat} {d : DV}, SR T ρ H ds σ → lget ds i = some d → OR T ρ H (some d) (some (((σ[i]?).getD none).getD .non)) ∧ ∃ v, σ[i]? = some (some v)
  | [], _, _, _, _, e => by simp [lget] at e
  | x :: xs, σ, 0, d, h, e => by
    obtain ⟨o, r, q, h1, _⟩ := h
    have e : x = some d := e
    subst e
    obtain ⟨v, q', h3⟩ := h1
    subst q; subst q'
    exact ⟨⟨v, rfl, h3⟩, v, rfl⟩
  | x :: xs, σ, i + 1, d, h, e => by
    obtain ⟨o, r, q, _, h2⟩ := h
    subst q
    have := SR.at' (i := i) (d := d) h2 e
    simpa using this
/-- a slot that is no function got -/
def notAct : DV → Bool
  | .act => false
  | _ => true
theorem SR.at {T : Tb} {ρ : List Addr} {H : Hp} {ds : DL} {σ : L2.St} {i : Nat} {d : DV} (h : SR T ρ H ds σ) (e : lget ds i = some d) (na : notAct d = true) : ∃ v, σ[i]? = some (some v) ∧ VR T ρ H d v := by
  obtain ⟨⟨v, e1, r⟩, w, e2⟩ := h.at' e
  rw [e2] at e1
  obtain rfl : w = v := by simpa using e1
  rcases r with r | ⟨q, _⟩
  · exact ⟨w, e2, r⟩
  · subst q; cases na
theorem SR.atAct {T : Tb} {ρ : List Addr} {H : Hp} {ds : DL} {σ : L2.St} {i : Nat} (h : SR T ρ H ds σ) (e : lget ds i = some .act) : σ[i]? = some (some (.ref T.act)) ∧ VRs T ρ H T.capD T.capV ∧ H T.actC = some (LamX.CodeO T.actC T.actQ) := by
  obtain ⟨⟨v, e1, r⟩, w, e2⟩ := h.at' e
  rw [e2] at e1
  obtain rfl : w = v := by simpa using e1
  rcases r with r | ⟨_, q, r⟩
  · exact r.elim
  · subst q; exact ⟨e2, r⟩
theorem SR.set {T : Tb} {ρ : List Addr} {H : Hp} {d : Option DV} {o : Option V} (hd : OR T ρ H d o) : ∀ {ds : DL} {σ : L2.St} (i : Nat), SR T ρ H ds σ → SR T ρ H (ds.set i d) (σ.set i o)
  | [], _, _, h => by subst h; exact rfl
  | x :: xs, _, 0, h => by
    obtain ⟨p, r, q, h1, h2⟩ := h
    subst q
    exact ⟨o, r, rfl, hd, h2⟩
  | x :: xs, _, i + 1, h => by
    obtain ⟨p, r, q, h1, h2⟩ := h
    subst q
    exact ⟨p, _, rfl, h1, SR.set hd i h2⟩

/-- a key -/
def KR : DV → Key → Prop
  | .int i, k => k = .inl i
  | .str cs, k => k = .inr ⟨cs.toArray⟩
  | _, _ => False
def KVR (T : Tb) (ρ : List Addr) (H : Hp) : List (DV × DV) → List (Key × V) → Prop
  | [], ks => ks = []
  | (k, d) :: r, ks => ∃ k' v r', ks = (k', v) :: r' ∧ KR k k' ∧ VR T ρ H d v ∧ KVR T ρ H r r'
/-- a key of one or more places, flat -/
def KTR : List DV → List Key → Prop
  | [], ks => ks = []
  | .int i :: r, ks => ∃ r', ks = .inl i :: r' ∧ KTR r r'
  | .str cs :: r, ks => ∃ r', ks = .inr ⟨cs.toArray⟩ :: r' ∧ KTR r r'
  | _ :: _, _ => False
def KTV (T : Tb) (ρ : List Addr) (H : Hp) : List (List DV × DV) → List (List Key × V) → Prop
  | [], ks => ks = []
  | (k, d) :: r, ks => ∃ k' v r', ks = (k', v) :: r' ∧ KTR k k' ∧ VR T ρ H d v ∧ KTV T ρ H r r'
def FR (T : Tb) (ρ : List Addr) (H : Hp) : List (Nat × DV) → List (Str × V) → Prop
  | [], fs => fs = []
  | (f, d) :: r, fs => ∃ v r', fs = (T.fld f, v) :: r' ∧ f < T.nf ∧ VR T ρ H d v ∧ FR T ρ H r r'
theorem KVR.up {T : Tb} {ρ ρ' : List Addr} {H H' : Hp} (u : Up ρ H ρ' H') : ∀ {ds : List (DV × DV)} {ks : List (Key × V)}, KVR T ρ H ds ks → KVR T ρ' H' ds ks
  | [], _, h => h
  | (k, d) :: r, _, h => by
    obtain ⟨k', v, r', e, h1, h2, h3⟩ := h
    exact ⟨k', v, r', e, h1, h2.up u, KVR.up u h3⟩
theorem KTV.up {T : Tb} {ρ ρ' : List Addr} {H H' : Hp} (u : Up ρ H ρ' H') : ∀ {ds : List (List DV × DV)} {ks : List (List Key × V)}, KTV T ρ H ds ks → KTV T ρ' H' ds ks
  | [], _, h => h
  | (k, d) :: r, _, h => by
    obtain ⟨k', v, r', e, h1, h2, h3⟩ := h
    exact ⟨k', v, r', e, h1, h2.up u, KTV.up u h3⟩
theorem FR.up {T : Tb} {ρ ρ' : List Addr} {H H' : Hp} (u : Up ρ H ρ' H') : ∀ {ds : List (Nat × DV)} {fs : List (Str × V)}, FR T ρ H ds fs → FR T ρ' H' ds fs
  | [], _, h => h
  | (k, d) :: r, _, h => by
    obtain ⟨v, r', e, h1, h2, h3⟩ := h
    exact ⟨v, r', e, h1, h2.up u, FR.up u h3⟩

/-- an object at a -/
def JR (T : Tb) (ρ : List Addr) (H : Hp) (a : Addr) : DO → Prop
  | .lst false xs => ∃ vs, VRs T ρ H xs vs ∧ H a = some (.lst vs)
  | .lst true xs => ∃ vs o, VRs T ρ H xs vs ∧ H a = some (.frz o (.lst vs))
  | .dK false kvs => ∃ ks, KVR T ρ H kvs ks ∧ H a = some (.dK ks)
  | .dK true kvs => ∃ ks o, KVR T ρ H kvs ks ∧ H a = some (.frz o (.dK ks))
  | .dT false kvs => ∃ ks, KTV T ρ H kvs ks ∧ H a = some (.dT ks)
  | .dT true kvs => ∃ ks o, KTV T ρ H kvs ks ∧ H a = some (.frz o (.dT ks))
  | .ins c fs => ∃ dx gs, FR T ρ H fs gs ∧ H a = some (.ins (T.cls c) dx gs)
  | .sT ks => H a = some (SetTO T.w a (ks.map stN))
theorem JR.there {T : Tb} {ρ : List Addr} {H : Hp} {a : Addr} {o : DO} (h : JR T ρ H a o) : ∃ u, H a = some u := by
  cases o with
  | lst fz xs => cases fz with
    | false => obtain ⟨_, _, e⟩ := h; exact ⟨_, e⟩
    | true => obtain ⟨_, _, _, e⟩ := h; exact ⟨_, e⟩
  | dK fz xs => cases fz with
    | false => obtain ⟨_, _, e⟩ := h; exact ⟨_, e⟩
    | true => obtain ⟨_, _, _, e⟩ := h; exact ⟨_, e⟩
  | dT fz xs => cases fz with
    | false => obtain ⟨_, _, e⟩ := h; exact ⟨_, e⟩
    | true => obtain ⟨_, _, _, e⟩ := h; exact ⟨_, e⟩
  | ins c fs => obtain ⟨_, _, _, e⟩ := h; exact ⟨_, e⟩
  | sT ks => exact ⟨_, h⟩
/-- what stays at the object's own place; the rest by Up -/
theorem JR.up {T : Tb} {ρ ρ' : List Addr} {H H' : Hp} {a : Addr} {o : DO} (u : Up ρ H ρ' H') (e : ∀ x, H a = some x → H' a = some x) (h : JR T ρ H a o) : JR T ρ' H' a o := by
  cases o with
  | lst fz xs => cases fz with
    | false => obtain ⟨vs, r, q⟩ := h; exact ⟨vs, r.up u, e _ q⟩
    | true => obtain ⟨vs, ob, r, q⟩ := h; exact ⟨vs, ob, r.up u, e _ q⟩
  | dK fz xs => cases fz with
    | false => obtain ⟨vs, r, q⟩ := h; exact ⟨vs, r.up u, e _ q⟩
    | true => obtain ⟨vs, ob, r, q⟩ := h; exact ⟨vs, ob, r.up u, e _ q⟩
  | dT fz xs => cases fz with
    | false => obtain ⟨vs, r, q⟩ := h; exact ⟨vs, r.up u, e _ q⟩
    | true => obtain ⟨vs, ob, r, q⟩ := h; exact ⟨vs, ob, r.up u, e _ q⟩
  | ins c fs => obtain ⟨dx, gs, r, q⟩ := h; exact ⟨dx, gs, r.up u, e _ q⟩
  | sT ks => exact e _ h

structure HR (T : Tb) (ρ : List Addr) (D : DH) (H : Hp) : Prop where
  len : ρ.length = D.n
  big : D.n ≤ bigN
  nod : ρ.Nodup
  obj : ∀ l a, ρ[l]? = some a → ∃ o, D.get l = some o ∧ JR T ρ H a o
  tab : LamX.Tabs T.tabs H
/-- the tables stay where all but one thing that may be written stays -/
theorem tabs_put {T : List (Addr × Str)} {H : Hp} {a : Addr} {o u : HO} (h : LamX.Tabs T H) (ha : H a = some u) (m : Mut (some u)) (nx : ∀ φ, u = .ext φ → NoCode u) : LamX.Tabs T (upd H a o) := fun p hp => by
  obtain ⟨ps, h1, h2, h3⟩ := h p hp
  refine ⟨ps, (upd_ne fun z => ?_).trans h1, h2, fun pos cv hc => ?_⟩
  · rw [z, ha] at h1; cases h1; exact m
  · obtain ⟨c, e1, e2⟩ := h3 pos cv hc
    refine ⟨c, e1, (upd_ne fun z => ?_).trans e2⟩
    rw [z, ha] at e2
    exact nx _ (Option.some.inj e2) _ _ (Option.some.inj e2)
theorem tabs_new {T : List (Addr × Str)} {H : Hp} {a : Addr} {o : HO} (h : LamX.Tabs T H) (ha : H a = none) : LamX.Tabs T (upd H a o) := h.ext fun b x q => by rw [upd_ne (ne_of_none q ha)]; exact q
theorem HR.lt {T : Tb} {ρ : List Addr} {D : DH} {H : Hp} (h : HR T ρ D H) {l : Nat} {a : Addr} (e : ρ[l]? = some a) : l < D.n := by
  rw [← h.len]; exact (List.getElem?_eq_some_iff.mp e).1
theorem HR.ne {T : Tb} {ρ : List Addr} {D : DH} {H : Hp} (h : HR T ρ D H) {l : Nat} {a p : Addr} (e : ρ[l]? = some a) (hp : H p = none) : a ≠ p := by
  obtain ⟨o, _, j⟩ := h.obj l a e
  obtain ⟨u, q⟩ := j.there
  exact ne_of_none q hp
theorem HR.inj {T : Tb} {ρ : List Addr} {D : DH} {H : Hp} (h : HR T ρ D H) {i j : Nat} {a : Addr} (e : ρ[i]? = some a) (e' : ρ[j]? = some a) : i = j := by
  obtain ⟨h1, e1⟩ := List.getElem?_eq_some_iff.mp e
  obtain ⟨h2, e2⟩ := List.getElem?_eq_some_iff.mp e'
  exact (List.getElem_inj h.nod).mp (e1.trans e2.symm)
/-- a new object that the data do not name (a tuple) -/
theorem up_new {ρ : List Addr} {H : Hp} {p : Addr} {o : HO} (hp : H p = none) : Up ρ H ρ (upd H p o) :=
  ⟨List.prefix_rfl, fun a vs h => by rw [upd_ne (ne_of_none h hp)]; exact h, fun a o u h => by rw [upd_ne (ne_of_none h hp)]; exact h, fun a f h => by rw [upd_ne (ne_of_none h hp)]; exact h⟩
theorem HR.new {T : Tb} {ρ : List Addr} {D : DH} {H : Hp} {p : Addr} {o : HO} (h : HR T ρ D H) (hp : H p = none) : HR T ρ D (upd H p o) :=
  ⟨h.len, h.big, h.nod, fun l a e => by
    obtain ⟨u, g, j⟩ := h.obj l a e
    exact ⟨u, g, j.up (up_new hp) fun x q => by rw [upd_ne (ne_of_none q hp)]; exact q⟩, tabs_new h.tab hp⟩
/-- a new object that they name -/
theorem up_add {ρ : List Addr} {H : Hp} {p : Addr} {o : HO} (hp : H p = none) : Up ρ H (ρ ++ [p]) (upd H p o) :=
  ⟨List.prefix_append _ _, (up_new (ρ := ρ) hp).tup, (up_new (ρ := ρ) hp).frz, (up_new (ρ := ρ) hp).ext⟩
theorem HR.add {T : Tb} {ρ : List Addr} {D : DH} {H : Hp} {p : Addr} {o : HO} {d : DO} (h : HR T ρ D H) (hn : D.n < bigN) (hp : H p = none) (hj : JR T (ρ ++ [p]) (upd H p o) p d) : HR T (ρ ++ [p]) (D.add d) (upd H p o) := by
  have np : p ∉ ρ := fun hm => by
    obtain ⟨l, e⟩ := List.mem_iff_getElem?.mp hm
    exact h.ne e hp rfl
  refine ⟨by rw [List.length_append, h.len]; rfl, hn, List.nodup_append.mpr ⟨h.nod, by simp, fun x hx y hy => ?_⟩, fun l a e => ?_, ?_⟩
  · have : y = p := by simpa using hy
    subst this
    rintro rfl
    exact np hx
  rotate_left
  · exact tabs_new h.tab hp
  · rw [DH.get_add hn]
    by_cases q : l = D.n
    · subst q
      rw [← h.len, List.getElem?_append_right (Nat.le_refl _)] at e
      simp at e
      subst e
      rw [if_pos rfl]
      exact ⟨d, rfl, hj⟩
    · have hl : l < ρ.length := by
        have := (List.getElem?_eq_some_iff.mp e).1
        rw [List.length_append, List.length_singleton] at this
        have := h.len
        omega
      rw [List.getElem?_append_left hl] at e
      rw [if_neg q]
      obtain ⟨u, g, j⟩ := h.obj l a e
      exact ⟨u, g, j.up (up_add hp) fun x q => by rw [upd_ne (ne_of_none q hp)]; exact q⟩
/-- an object written -/
theorem up_put {ρ : List Addr} {H : Hp} {a : Addr} {o u : HO} (ha : H a = some u) (m : Mut (some u)) (nx : ∀ φ, u = .ext φ → NoCode u) : Up ρ H ρ (upd H a o) := by
  have ne : ∀ b x, H b = some x → ¬ Mut (some x) → b ≠ a := fun b x e nm z => by
    subst z; rw [ha] at e; cases e; exact nm m
  refine ⟨List.prefix_rfl, fun b vs h => ?_, fun b o u h => ?_, fun b φ h => ?_⟩
  · rw [upd_ne (ne b _ h (fun z => z))]; exact h
  · rw [upd_ne (ne b _ h (fun z => z))]; exact h
  · refine (upd_ne fun z => ?_).trans h
    subst z; rw [ha] at h; exact nx _ (Option.some.inj h) _ _ (Option.some.inj h)
theorem HR.put {T : Tb} {ρ : List Addr} {D : DH} {H : Hp} {l : Nat} {a : Addr} {o u : HO} {d : DO} (h : HR T ρ D H) (hl : ρ[l]? = some a) (ha : H a = some u) (m : Mut (some u)) (nx : ∀ φ, u = .ext φ → NoCode u)
    (hj : JR T ρ (upd H a o) a d) : HR T ρ (D.put l d) (upd H a o) := by
  have hb : l < bigN := Nat.lt_of_lt_of_le (h.lt hl) h.big
  refine ⟨h.len, h.big, h.nod, fun k b e => ?_, tabs_put h.tab ha m nx⟩
  rw [DH.get_put hb]
  by_cases q : k = l
  · subst q
    rw [hl] at e; cases e
    rw [if_pos rfl]
    exact ⟨d, rfl, hj⟩
  · rw [if_neg q]
    obtain ⟨v, g, j⟩ := h.obj k b e
    have nb : b ≠ a := fun z => by subst z; exact q (h.inj e hl)
    exact ⟨v, g, j.up (up_put ha m nx) fun x q => by rw [upd_ne nb]; exact q⟩

/-! ### the readings that a machine's step gives -/
def pE (T : Tb) (ρ : List Addr) (H : Hp) (r : R DV) (Q : VK) : Prop := match r with
  | .ok d D => ∀ ρ' H' v, Up ρ H ρ' H' → HR T ρ' D H' → VR T ρ' H' d v → Q v H'
  | .bad => False
def pT (T : Tb) (ρ : List Addr) (H : Hp) (r : R Bool) (Q : Bool → Hp → Prop) : Prop := match r with
  | .ok b D => ∀ ρ' H', Up ρ H ρ' H' → HR T ρ' D H' → Q b H'
  | .bad => False
def pA (T : Tb) (ρ : List Addr) (H : Hp) (r : R (List DV)) (Q : List V → Hp → Prop) : Prop := match r with
  | .ok ds D => ∀ ρ' H' vs, Up ρ H ρ' H' → HR T ρ' D H' → VRs T ρ' H' ds vs → Q vs H'
  | .bad => False
def pS (T : Tb) (ρ : List Addr) (H : Hp) (r : RS) (E : Ends) : Prop := match r with
  | .nx σ D => ∀ ρ' H' σ', Up ρ H ρ' H' → HR T ρ' D H' → SR T ρ' H' σ σ' → E.nx σ' H'
  | .bk σ D => ∀ ρ' H' σ', Up ρ H ρ' H' → HR T ρ' D H' → SR T ρ' H' σ σ' → E.bk σ' H'
  | .ct σ D => ∀ ρ' H' σ', Up ρ H ρ' H' → HR T ρ' D H' → SR T ρ' H' σ σ' → E.ct σ' H'
  | .rt d D => ∀ ρ' H' v, Up ρ H ρ' H' → HR T ρ' D H' → VR T ρ' H' d v → E.rt v H'
  | .bad => False
theorem pE.up {T : Tb} {ρ ρ1 : List Addr} {H H1 : Hp} {r : R DV} {Q : VK} (u : Up ρ H ρ1 H1) (h : pE T ρ H r Q) : pE T ρ1 H1 r Q := by
  cases r with
  | bad => exact h
  | ok d D => exact fun ρ' H' v u' => h ρ' H' v (u.trans u')
theorem pT.up {T : Tb} {ρ ρ1 : List Addr} {H H1 : Hp} {r : R Bool} {Q : Bool → Hp → Prop} (u : Up ρ H ρ1 H1) (h : pT T ρ H r Q) : pT T ρ1 H1 r Q := by
  cases r with
  | bad => exact h
  | ok d D => exact fun ρ' H' u' => h ρ' H' (u.trans u')
theorem pA.up {T : Tb} {ρ ρ1 : List Addr} {H H1 : Hp} {r : R (List DV)} {Q : List V → Hp → Prop} (u : Up ρ H ρ1 H1) (h : pA T ρ H r Q) : pA T ρ1 H1 r Q := by
  cases r with
  | bad => exact h
  | ok d D => exact fun ρ' H' v u' => h ρ' H' v (u.trans u')
theorem pS.up {T : Tb} {ρ ρ1 : List Addr} {H H1 : Hp} {r : RS} {E : Ends} (u : Up ρ H ρ1 H1) (h : pS T ρ H r E) : pS T ρ1 H1 r E := by
  cases r with
  | bad => exact h
  | nx d D => exact fun ρ' H' v u' => h ρ' H' v (u.trans u')
  | bk d D => exact fun ρ' H' v u' => h ρ' H' v (u.trans u')
  | ct d D => exact fun ρ' H' v u' => h ρ' H' v (u.trans u')
  | rt d D => exact fun ρ' H' v u' => h ρ' H' v (u.trans u')
def rE (T : Tb) (m : ME) : TE := fun σ H Q => ∃ ρ σd D, SR T ρ H σd σ ∧ HR T ρ D H ∧ pE T ρ H (m σd D) Q
def rT (T : Tb) (m : MT) : TT := fun σ H Q => ∃ ρ σd D, SR T ρ H σd σ ∧ HR T ρ D H ∧ pT T ρ H (m σd D) Q
def rA (T : Tb) (m : MA) : TA := fun σ H Q => ∃ ρ σd D, SR T ρ H σd σ ∧ HR T ρ D H ∧ pA T ρ H (m σd D) Q
def rS (T : Tb) (m : MS) : TS := fun E σ H => ∃ ρ σd D, SR T ρ H σd σ ∧ HR T ρ D H ∧ pS T ρ H (m σd D) E
/-- a two-place operation on data; a one-place one; a call of a built-in -/
def r2 (T : Tb) (f : DV → DV → DH → R DV) : R2 := fun x y H Q => ∃ ρ D a b, HR T ρ D H ∧ VR T ρ H a x ∧ VR T ρ H b y ∧ pE T ρ H (f a b D) Q
def r1 (T : Tb) (f : DV → DH → R DV) : V → Hp → VK → Prop := fun x H Q => ∃ ρ D a, HR T ρ D H ∧ VR T ρ H a x ∧ pE T ρ H (f a D) Q
def rC (T : Tb) (f : List DV → DH → R DV) : List V → Hp → VK → Prop := fun xs H Q => ∃ ρ D as, HR T ρ D H ∧ VRs T ρ H as xs ∧ pE T ρ H (f as D) Q

/-- weaker readings -/
theorem PEw {X : Cx} {e : Expr} {t t' : TE} (h : PE X e t) (w : ∀ σ H Q, t' σ H Q → t σ H Q) : PE X e t' := ⟨fun pins s σ H Q I q => h.run pins s σ H Q I (w σ H Q q)⟩
theorem PTw {X : Cx} {e : Expr} {t t' : TT} (h : PT X e t) (w : ∀ σ H Q, t' σ H Q → t σ H Q) : PT X e t' := ⟨fun pins s σ H Q I q => h.run pins s σ H Q I (w σ H Q q)⟩
theorem PAw {X : Cx} {e : List Expr} {t t' : TA} (h : PA X e t) (w : ∀ σ H Q, t' σ H Q → t σ H Q) : PA X e t' := ⟨fun pos pins s σ H Q I q => h.run pos pins s σ H Q I (w σ H Q q)⟩
theorem PSw {X : Cx} {e : Stmt} {t t' : TS} (h : PS X e t) (w : ∀ D σ H, t' D σ H → t D σ H) : PS X e t' := ⟨fun pins s σ H Q I q => h.run pins s σ H Q I (w Q σ H q)⟩
theorem PSsw {X : Cx} {e : List Stmt} {t t' : TS} (h : PSs X e t) (w : ∀ D σ H, t' D σ H → t D σ H) : PSs X e t' := ⟨fun pins s σ H Q I q => h.run pins s σ H Q I (w Q σ H q)⟩
end FH

namespace FH
open PySem PySem.Spec PyProof.Rows L2

/-! ### the machine's steps -/
def DH.new (D : DH) (o : DO) : R DV := cond (Nat.blt D.n bigN) (.ok (.loc D.n) (D.add o)) .bad
def mVar (i : Nat) : ME := fun σ D => match lget σ i with
  | some d => cond (notAct d) (.ok d D) .bad
  | none => .bad
def mC (d : DV) : ME := fun _ D => .ok d D
def mBin (f : DV → DV → DH → R DV) (a b : ME) : ME := fun σ D => match a σ D with
  | .ok x D1 => (match b σ D1 with
    | .ok y D2 => f x y D2
    | .bad => .bad)
  | .bad => .bad
def mUn (f : DV → DH → R DV) (a : ME) : ME := fun σ D => match a σ D with
  | .ok x D1 => f x D1
  | .bad => .bad
def aNil : MA := fun _ D => .ok [] D
def aCons (a : ME) (r : MA) : MA := fun σ D => match a σ D with
  | .ok x D1 => (match r σ D1 with
    | .ok xs D2 => .ok (x :: xs) D2
    | .bad => .bad)
  | .bad => .bad
def mCall (f : List DV → DH → R DV) (a : MA) : ME := fun σ D => match a σ D with
  | .ok xs D1 => f xs D1
  | .bad => .bad
/-- the longest list, tuple, text -/
abbrev lineN : Nat := 16777216
def mTup (a : MA) : ME := mCall (fun xs D => cond (Nat.ble xs.length lineN) (.ok (.tup xs) D) .bad) a
def mLst (a : MA) : ME := mCall (fun xs D => cond (Nat.ble xs.length lineN) (D.new (.lst false xs)) .bad) a
def mIf (t : MT) (a b : ME) : ME := fun σ D => match t σ D with
  | .ok true D1 => a σ D1
  | .ok false D1 => b σ D1
  | .bad => .bad
/-- a value that is a bool, as a test -/
def tV (a : ME) : MT := fun σ D => match a σ D with
  | .ok (.bl b) D1 => .ok b D1
  | _ => .bad
/-- any value's truth -/
def truth : DV → DH → R Bool
  | .non, D => .ok false D
  | .bl b, D => .ok b D
  | .int i, D => .ok (cond (match i with | .ofNat n => Nat.beq n 0 | .negSucc _ => false) false true) D
  | .str cs, D => cond (Nat.ble cs.length lineN) (.ok (!cs.isEmpty) D) .bad
  | .tup xs, D => .ok (!xs.isEmpty) D
  | .loc l, D => (match D.get l with
    | some (.lst _ xs) => .ok (!xs.isEmpty) D
    | some (.dK false kvs) => .ok (!kvs.isEmpty) D
    | _ => .bad)
  | _, _ => .bad
def tTru (a : ME) : MT := fun σ D => match a σ D with
  | .ok x D1 => truth x D1
  | .bad => .bad
def tAndM (a b : MT) : MT := fun σ D => match a σ D with
  | .ok true D1 => b σ D1
  | .ok false D1 => .ok false D1
  | .bad => .bad
def tOrM (a b : MT) : MT := fun σ D => match a σ D with
  | .ok false D1 => b σ D1
  | .ok true D1 => .ok true D1
  | .bad => .bad
def tNotM (a : MT) : MT := fun σ D => match a σ D with
  | .ok b D1 => .ok (!b) D1
  | .bad => .bad
/-- and, or, not of bools, as values -/
def mAnd (a b : ME) : ME := fun σ D => match a σ D with
  | .ok (.bl true) D1 => b σ D1
  | .ok (.bl false) D1 => .ok (.bl false) D1
  | _ => .bad
def mOr (a b : ME) : ME := fun σ D => match a σ D with
  | .ok (.bl false) D1 => b σ D1
  | .ok (.bl true) D1 => .ok (.bl true) D1
  | _ => .bad
def mNot (a : ME) : ME := fun σ D => match a σ D with
  | .ok (.bl b) D1 => .ok (.bl (!b)) D1
  | _ => .bad

/-! ### what goes through a step -/
section
variable {T : Tb} {ρ : List Addr} {H : Hp} {D : DH}
theorem pE_ok {d : DV} {Q : VK} (h : HR T ρ D H) {v : V} (r : VR T ρ H d v) (p : pE T ρ H (.ok d D) Q) : Q v H := p ρ H v (Up.refl _ _) h r
theorem pE_new {o : DO} {Q : VK} (h : HR T ρ D H) (p : pE T ρ H (D.new o) Q) {q : Addr} {u : HO} (hq : H q = none) (j : JR T (ρ ++ [q]) (upd H q u) q o) : Q (.ref q) (upd H q u) := by
  unfold DH.new at p
  cases e : Nat.blt D.n bigN with
  | false => rw [e] at p; exact p.elim
  | true =>
    rw [e] at p
    have hn : D.n < bigN := Nat.le_of_ble_eq_true e
    refine p (ρ ++ [q]) (upd H q u) (.ref q) (up_add hq) (h.add hn hq j) ⟨q, ?_, rfl⟩
    rw [← h.len, List.getElem?_append_right (Nat.le_refl _)]
    simp
theorem ble_line {n : Nat} (h : Nat.ble n lineN = true) : n ≤ sizeLine := by
  rw [sizeLine_eq]; exact Nat.le_of_ble_eq_true h
/-- a new tuple by value -/
theorem pE_tup {xs : List DV} {vs : List V} {Q : VK} (h : HR T ρ D H) (r : VRs T ρ H xs vs) (p : pE T ρ H (.ok (.tup xs) D) Q) {q : Addr} (hq : H q = none) : Q (.ref q) (upd H q (.tup vs)) :=
  p ρ _ _ (up_new hq) (h.new hq) ⟨q, vs, rfl, SqT.of upd_same, r.up (up_new hq)⟩
end

section
variable {T : Tb} {X : Cx} {a b c e : Expr} {ma mb : ME} {pos : Pos}
theorem ex_var (i : Nat) {x : Str} {pos : Pos} (hN : X.N[i]? = some x := by rfl) (hv : Vis X.env.scope x := by first | exact Or.inl rfl | exact Or.inr (Or.inl rfl) | exact Or.inr (Or.inr rfl)) (hd : (x == ("__debug__" : Str)) = false := by decide)
    (hcd : (x == ("__classdict__" : Str)) = false := by decide) : PE X (.Name x pos) (rE T (mVar i)) := by
  refine PEw (pe_var hN hv hd hcd) fun σ H Q ⟨ρ, σd, D, sr, hr, p⟩ => ?_
  unfold mVar at p
  cases g : lget σd i with
  | none => rw [g] at p; exact p.elim
  | some d =>
    rw [g] at p
    dsimp only at p
    cases na : notAct d with
    | false => rw [na] at p; exact p.elim
    | true =>
      rw [na] at p
      obtain ⟨v, e, r⟩ := sr.at g na
      exact ⟨v, e, pE_ok hr r p⟩
theorem ex_const {v : V} {d : DV} (h : PE X e (tC v)) (r : ∀ ρ H, VR T ρ H d v) : PE X e (rE T (mC d)) :=
  PEw h fun σ H Q ⟨ρ, σd, D, sr, hr, p⟩ => pE_ok hr (r ρ H) p
theorem ex_int {i : Int} {j pos} : PE X (.Constant (.int i) j pos) (rE T (mC (.int i))) := ex_const pe_int fun _ _ => rfl
theorem ex_bl {i : Bool} {j pos} : PE X (.Constant (.bool i) j pos) (rE T (mC (.bl i))) := ex_const pe_bl fun _ _ => rfl
theorem ex_non {j pos} : PE X (.Constant .none j pos) (rE T (mC .non)) := ex_const pe_non fun _ _ => rfl
theorem ex_str {x : Str} (cs : List Nat) {j pos} (h : x = ⟨cs.toArray⟩ := by rfl) : PE X (.Constant (.str x) j pos) (rE T (mC (.str cs))) := ex_const pe_str fun _ _ => by rw [h]; rfl
/-- a global constant, by its number -/
theorem ex_glob (n : Nat) {x : Str} {v : V} {u : Value} {pos : Pos} (hg : Gl X x := by rfl) (hm : X.mg x = some u) (r : RelV v u) (hc : T.con n = some v) (hd : (x == ("__debug__" : Str)) = false := by decide) : PE X (.Name x pos) (rE T (mC (.cn n))) :=
  ex_const (pe_glob hg hm r hd) fun _ _ => hc
/-- .. whose value is data (a tuple of the module) -/
theorem ex_globD (d : DV) {x : Str} {v : V} {u : Value} {pos : Pos} (hg : Gl X x := by rfl) (hm : X.mg x = some u) (r : RelV v u) (hc : ∀ ρ H, VR T ρ H d v) (hd : (x == ("__debug__" : Str)) = false := by decide) : PE X (.Name x pos) (rE T (mC d)) :=
  ex_const (pe_glob hg hm r hd) hc

theorem ax_nil : PA X [] (rA T aNil) := PAw pa_nil fun σ H Q ⟨ρ, σd, D, sr, hr, p⟩ => p ρ H [] (Up.refl _ _) hr rfl
theorem ax_cons {es : List Expr} {mr : MA} (ha : PE X e (rE T ma)) (hr : PA X es (rA T mr)) (hs : starEach (e :: es) X.env = (false, eval e X.env) :: starEach es X.env := by rfl) : PA X (e :: es) (rA T (aCons ma mr)) := by
  refine PAw (pa_cons ha hr hs) fun σ H Q ⟨ρ, σd, D, sr, h, p⟩ => ⟨ρ, σd, D, sr, h, ?_⟩
  unfold aCons at p
  cases g : ma σd D with
  | bad => rw [g] at p; exact p.elim
  | ok x D1 =>
    rw [g] at p
    intro ρ1 H1 v u1 h1 r1
    refine ⟨ρ1, σd, D1, sr.up u1, h1, ?_⟩
    dsimp only at p
    cases g2 : mr σd D1 with
    | bad => rw [g2] at p; exact p.elim
    | ok xs D2 =>
      rw [g2] at p
      intro ρ2 H2 vs u2 h2 r2
      exact p ρ2 H2 (v :: vs) (u1.trans u2) h2 ⟨v, vs, rfl, r1.up u2, r2⟩

/-- two values, then an operation on them -/
theorem tOp_of {r : R2} {f : DV → DV → DH → R DV} (ho : ∀ x y H Q, r2 T f x y H Q → r x y H Q) {σ : L2.St} {H : Hp} {Q : VK} (q : rE T (mBin f ma mb) σ H Q) : tOp r (rE T ma) (rE T mb) σ H Q := by
  obtain ⟨ρ, σd, D, sr, h, p⟩ := q
  refine ⟨ρ, σd, D, sr, h, ?_⟩
  unfold mBin at p
  cases g : ma σd D with
  | bad => rw [g] at p; exact p.elim
  | ok x D1 =>
    rw [g] at p
    intro ρ1 H1 v u1 h1 r1
    refine ⟨ρ1, σd, D1, sr.up u1, h1, ?_⟩
    dsimp only at p
    cases g2 : mb σd D1 with
    | bad => rw [g2] at p; exact p.elim
    | ok y D2 =>
      rw [g2] at p
      intro ρ2 H2 w u2 h2 r2
      exact ho _ _ _ _ ⟨ρ2, D2, x, y, h2, r1.up u2, r2, p.up (u1.trans u2)⟩
theorem tUn_of {r : V → Hp → VK → Prop} {f : DV → DH → R DV} (ho : ∀ x H Q, r1 T f x H Q → r x H Q) {σ : L2.St} {H : Hp} {Q : VK} (q : rE T (mUn f ma) σ H Q) : tUn r (rE T ma) σ H Q := by
  obtain ⟨ρ, σd, D, sr, h, p⟩ := q
  refine ⟨ρ, σd, D, sr, h, ?_⟩
  unfold mUn at p
  cases g : ma σd D with
  | bad => rw [g] at p; exact p.elim
  | ok x D1 =>
    rw [g] at p
    intro ρ1 H1 v u1 h1 r1
    exact ho _ _ _ ⟨ρ1, D1, x, h1, r1, p.up u1⟩
theorem tC_of {f : List DV → DH → R DV} {mr : MA} {r : List V → Hp → VK → Prop} (ho : ∀ xs H Q, rC T f xs H Q → r xs H Q) {σ : L2.St} {H : Hp} {Q : VK} (q : rE T (mCall f mr) σ H Q) : rA T mr σ H (fun vs H1 => r vs H1 Q) := by
  obtain ⟨ρ, σd, D, sr, h, p⟩ := q
  refine ⟨ρ, σd, D, sr, h, ?_⟩
  unfold mCall at p
  cases g : mr σd D with
  | bad => rw [g] at p; exact p.elim
  | ok xs D1 =>
    rw [g] at p
    intro ρ1 H1 vs u1 h1 r1
    exact ho _ _ _ ⟨ρ1, D1, xs, h1, r1, p.up u1⟩
theorem ex_op {op : Operator} {f : DV → DV → DH → R DV} {r : R2} (ho : OpR X (binaryOp op) r) (hf : ∀ x y H Q, r2 T f x y H Q → r x y H Q) (ha : PE X a (rE T ma)) (hb : PE X b (rE T mb)) : PE X (.BinOp a op b pos) (rE T (mBin f ma mb)) :=
  PEw (pe_op ho ha hb) fun _ _ _ q => tOp_of hf q
theorem ex_cmp {op : CmpOp} {f : DV → DV → DH → R DV} {r : R2} (ho : OpR X (compareOp op) r) (hf : ∀ x y H Q, r2 T f x y H Q → r x y H Q) (ha : PE X a (rE T ma)) (hb : PE X b (rE T mb)) (hm : behindInMarks op b = false) : PE X (.Compare a [op] [b] pos) (rE T (mBin f ma mb)) :=
  PEw (pe_cmpR ho ha hb hm) fun _ _ _ q => tOp_of hf q
theorem tV_of {t : TE} {m : ME} (h : ∀ σ H Q, rE T m σ H Q → t σ H Q) {σ : L2.St} {H : Hp} {Q : Bool → Hp → Prop} (q : rT T (tV m) σ H Q) : t σ H (fun x H' => ∃ k, x = .bl k ∧ Q k H') := by
  obtain ⟨ρ, σd, D, sr, hr, p⟩ := q
  refine h _ _ _ ⟨ρ, σd, D, sr, hr, ?_⟩
  unfold tV at p
  cases g : m σd D with
  | bad => rw [g] at p; exact p.elim
  | ok x D1 =>
    rw [g] at p
    cases x with
    | bl b => exact fun ρ1 H1 v u1 h1 r1 => ⟨b, r1, p ρ1 H1 u1 h1⟩
    | _ => exact p.elim
theorem tx_cmp {op : CmpOp} {f : DV → DV → DH → R DV} {r : R2} (ho : OpR X (compareOp op) r) (hf : ∀ x y H Q, r2 T f x y H Q → r x y H Q) (ha : PE X a (rE T ma)) (hb : PE X b (rE T mb)) (hm : behindInMarks op b = false) : PT X (.Compare a [op] [b] pos) (rT T (tV (mBin f ma mb))) :=
  PTw (pt_cmpR ho ha hb hm) fun σ H Q q => tV_of (fun _ _ _ => tOp_of hf) q
/-- a call, a field, a name .. that is a bool -/
theorem tx_val {m : ME} (h : PE X e (rE T m)) (he : ∀ whole, isTrue e X.env whole = (do let v ← whole; standAt e.pos; holding [v] (truthy v)) := by intro _; rfl) : PT X e (rT T (tV m)) :=
  PTw (pt_val h he) fun σ H Q q => tV_of (fun _ _ _ z => z) q
theorem tx_and1 {t : MT} (ha : PT X a (rT T t)) : PW X (.BoolOp .And [a] pos) (rT T t) := pw_and1 ha
theorem tx_or1 {t : MT} (ha : PT X a (rT T t)) : PW X (.BoolOp .Or [a] pos) (rT T t) := pw_or1 ha
theorem PWw {t t' : TT} (h : PW X e t) (w : ∀ σ H Q, t' σ H Q → t σ H Q) : PW X e t' := ⟨fun wh pins s σ H Q I q => h.run wh pins s σ H Q I (w σ H Q q)⟩
theorem tx_and {t u : MT} {rest : List Expr} (ha : PT X a (rT T t)) (hb : PW X (.BoolOp .And (b :: rest) pos) (rT T u)) : PW X (.BoolOp .And (a :: b :: rest) pos) (rT T (tAndM t u)) := by
  refine PWw (pw_and ha hb) fun σ H Q ⟨ρ, σd, D, sr, hr, p⟩ => ⟨ρ, σd, D, sr, hr, ?_⟩
  unfold tAndM at p
  cases g : t σd D with
  | bad => rw [g] at p; exact p.elim
  | ok x D1 =>
    rw [g] at p
    cases x with
    | true => exact fun ρ1 H1 u1 h1 => iteT ⟨ρ1, σd, D1, sr.up u1, h1, p.up u1⟩
    | false => exact fun ρ1 H1 u1 h1 => iteF (p ρ1 H1 u1 h1)
theorem tx_or {t u : MT} {rest : List Expr} (ha : PT X a (rT T t)) (hb : PW X (.BoolOp .Or (b :: rest) pos) (rT T u)) : PW X (.BoolOp .Or (a :: b :: rest) pos) (rT T (tOrM t u)) := by
  refine PWw (pw_or ha hb) fun σ H Q ⟨ρ, σd, D, sr, hr, p⟩ => ⟨ρ, σd, D, sr, hr, ?_⟩
  unfold tOrM at p
  cases g : t σd D with
  | bad => rw [g] at p; exact p.elim
  | ok x D1 =>
    rw [g] at p
    cases x with
    | true => exact fun ρ1 H1 u1 h1 => iteT (p ρ1 H1 u1 h1)
    | false => exact fun ρ1 H1 u1 h1 => iteF ⟨ρ1, σd, D1, sr.up u1, h1, p.up u1⟩
theorem tx_not {t : MT} (ha : PT X a (rT T t)) : PT X (.UnaryOp .Not a pos) (rT T (tNotM t)) := by
  refine PTw (pt_not ha) fun σ H Q ⟨ρ, σd, D, sr, hr, p⟩ => ⟨ρ, σd, D, sr, hr, ?_⟩
  unfold tNotM at p
  cases g : t σd D with
  | bad => rw [g] at p; exact p.elim
  | ok x D1 =>
    rw [g] at p
    exact fun ρ1 H1 u1 h1 => p ρ1 H1 u1 h1
theorem ex_and {rest : List Expr} (ha : PE X a (rE T ma)) (hb : PE X (.BoolOp .And (b :: rest) pos) (rE T mb)) : PE X (.BoolOp .And (a :: b :: rest) pos) (rE T (mAnd ma mb)) := by
  refine PEw (pe_and ha hb) fun σ H Q ⟨ρ, σd, D, sr, hr, p⟩ => ⟨ρ, σd, D, sr, hr, ?_⟩
  unfold mAnd at p
  cases g : ma σd D with
  | bad => rw [g] at p; exact p.elim
  | ok x D1 =>
    rw [g] at p
    cases x with
    | bl k =>
      cases k with
      | true => exact fun ρ1 H1 v u1 h1 r1 => ⟨true, r1, iteT ⟨ρ1, σd, D1, sr.up u1, h1, p.up u1⟩⟩
      | false => exact fun ρ1 H1 v u1 h1 r1 => ⟨false, r1, iteF (p ρ1 H1 (.bl false) u1 h1 rfl)⟩
    | _ => exact p.elim
theorem ex_or {rest : List Expr} (ha : PE X a (rE T ma)) (hb : PE X (.BoolOp .Or (b :: rest) pos) (rE T mb)) : PE X (.BoolOp .Or (a :: b :: rest) pos) (rE T (mOr ma mb)) := by
  refine PEw (pe_or ha hb) fun σ H Q ⟨ρ, σd, D, sr, hr, p⟩ => ⟨ρ, σd, D, sr, hr, ?_⟩
  unfold mOr at p
  cases g : ma σd D with
  | bad => rw [g] at p; exact p.elim
  | ok x D1 =>
    rw [g] at p
    cases x with
    | bl k =>
      cases k with
      | true => exact fun ρ1 H1 v u1 h1 r1 => ⟨true, r1, iteT (p ρ1 H1 (.bl true) u1 h1 rfl)⟩
      | false => exact fun ρ1 H1 v u1 h1 r1 => ⟨false, r1, iteF ⟨ρ1, σd, D1, sr.up u1, h1, p.up u1⟩⟩
    | _ => exact p.elim
theorem ex_not (ha : PE X a (rE T ma)) : PE X (.UnaryOp .Not a pos) (rE T (mNot ma)) := by
  refine PEw (pe_not ha) fun σ H Q ⟨ρ, σd, D, sr, hr, p⟩ => ⟨ρ, σd, D, sr, hr, ?_⟩
  unfold mNot at p
  cases g : ma σd D with
  | bad => rw [g] at p; exact p.elim
  | ok x D1 =>
    rw [g] at p
    cases x with
    | bl k => exact fun ρ1 H1 v u1 h1 r1 => ⟨k, r1, p ρ1 H1 (.bl (!k)) u1 h1 rfl⟩
    | _ => exact p.elim
theorem ex_one {op} {m : ME} (h : PE X a (rE T m)) : PE X (.BoolOp op [a] pos) (rE T m) := pe_one h
theorem ex_if {t : MT} (hc : PT X c (rT T t)) (ha : PE X a (rE T ma)) (hb : PE X b (rE T mb)) : PE X (.IfExp c a b pos) (rE T (mIf t ma mb)) := by
  refine PEw (pe_ifExp hc ha hb) fun σ H Q ⟨ρ, σd, D, sr, hr, p⟩ => ⟨ρ, σd, D, sr, hr, ?_⟩
  unfold mIf at p
  cases g : t σd D with
  | bad => rw [g] at p; exact p.elim
  | ok x D1 =>
    rw [g] at p
    cases x with
    | true => exact fun ρ1 H1 u1 h1 => iteT ⟨ρ1, σd, D1, sr.up u1, h1, p.up u1⟩
    | false => exact fun ρ1 H1 u1 h1 => iteF ⟨ρ1, σd, D1, sr.up u1, h1, p.up u1⟩
theorem ex_tup {x1} {es : List Expr} {mr : MA} (h : PA X es (rA T mr)) : PE X (.Tuple es x1 pos) (rE T (mTup mr)) := by
  refine PEw (pe_tup h) fun σ H Q q => ?_
  refine tC_of (T := T) (r := fun xs H1 Q => xs.length ≤ sizeLine ∧ ∀ p, H1 p = none → Q (.ref p) (upd H1 p (.tup xs))) (fun vs H1 Q ⟨ρ, D, xs, h1, r1, p⟩ => ?_) q
  dsimp only at p
  cases e : Nat.ble xs.length lineN with
  | false => rw [e] at p; exact p.elim
  | true =>
    rw [e] at p
    exact ⟨by rw [r1.len]; exact ble_line e, fun q hq => pE_tup h1 r1 p hq⟩
theorem ex_lst {es : List Expr} {mr : MA} (h : PA X es (rA T mr)) : PE X (.List es pos) (rE T (mLst mr)) := by
  refine PEw (pe_lst h) fun σ H Q q => ?_
  refine tC_of (T := T) (r := fun xs H1 Q => xs.length ≤ sizeLine ∧ ∀ p, H1 p = none → Q (.ref p) (upd H1 p (.lst xs))) (fun vs H1 Q ⟨ρ, D, xs, h1, r1, p⟩ => ?_) q
  dsimp only at p
  cases e : Nat.ble xs.length lineN with
  | false => rw [e] at p; exact p.elim
  | true =>
    rw [e] at p
    exact ⟨by rw [r1.len]; exact ble_line e, fun q hq => pE_new h1 p hq ⟨vs, r1.up (up_add hq), upd_same⟩⟩
end
end FH

namespace FH
open PySem PySem.Spec PyProof.Rows L2

/-! ### values that are plain data: what they are as PyData -/
mutual
def py : DV → PyData
  | .non => .none
  | .bl b => .bool b
  | .int i => .int i
  | .str cs => .str ⟨cs.toArray⟩
  | .tup xs => .tuple (pys xs)
  | .loc _ => .none
  | .cn _ => .none
  | .opq => .none
  | .act => .none
def pys : List DV → List PyData
  | [] => []
  | x :: xs => py x :: pys xs
end
def codesOk : List Nat → Bool
  | [] => true
  | c :: r => cond (Nat.blt c 1114112) (codesOk r) false
mutual
/-- plain, of depth at most n -/
def pureN : DV → Nat → Bool
  | .non, _ => true
  | .bl _, _ => true
  | .int _, _ => true
  | .str cs, _ => codesOk cs
  | .tup xs, n => (match n with
    | 0 => false
    | n + 1 => pureNs xs n)
  | .loc _, _ => false
  | .cn _, _ => false
  | .opq, _ => false
  | .act, _ => false
def pureNs : List DV → Nat → Bool
  | [], _ => true
  | x :: xs, n => cond (pureN x n) (pureNs xs n) false
end
theorem codesOk_ok : ∀ {cs : List Nat}, codesOk cs = true → PyData.strOk ⟨cs.toArray⟩ = true := by
  intro cs h
  have k : ∀ cs : List Nat, codesOk cs = true → cs.all (fun c => decide (c < 0x110000)) = true := by
    intro cs
    induction cs with
    | nil => intro _; rfl
    | cons c r ih =>
      intro h
      unfold codesOk at h
      cases e : Nat.blt c 1114112 with
      | false => rw [e] at h; cases h
      | true =>
        rw [e] at h
        rw [List.all_cons, ih h, Bool.and_true]
        exact decide_eq_true (Nat.le_of_ble_eq_true e)
  show (cs.toArray.all fun c => decide (c < 0x110000)) = true
  rw [← Array.all_toList]
  exact k cs h
mutual
theorem py_ok {T : Tb} {ρ : List Addr} {H : Hp} : ∀ {d : DV} {n : Nat} {v : V}, pureN d n = true → VR T ρ H d v → Dp T.K H v (py d) ∧ (py d).canLay0 = true ∧ (py d).depth ≤ n
  | .non, n, v, _, r => by cases r; exact ⟨.non, rfl, Nat.zero_le _⟩
  | .bl b, n, v, _, r => by cases r; exact ⟨.bl b, rfl, Nat.zero_le _⟩
  | .int i, n, v, _, r => by cases r; exact ⟨.int i, rfl, Nat.zero_le _⟩
  | .str cs, n, v, h, r => by cases r; exact ⟨.str _, codesOk_ok h, Nat.zero_le _⟩
  | .tup xs, 0, v, h, r => by cases h
  | .tup xs, n + 1, v, h, r => by
    obtain ⟨a, vs, e, s, q⟩ := r
    subst e
    obtain ⟨h1, h2, h3⟩ := pys_ok (n := n) h q
    exact ⟨.tup s h1, h2, Nat.succ_le_succ h3⟩
  | .loc _, _, _, h, _ => by cases h
  | .cn _, _, _, h, _ => by cases h
  | .opq, _, _, h, _ => by cases h
  | .act, _, _, h, _ => by cases h
theorem pys_ok {T : Tb} {ρ : List Addr} {H : Hp} : ∀ {ds : List DV} {n : Nat} {vs : List V}, pureNs ds n = true → VRs T ρ H ds vs → DpAll T.K H vs (pys ds) ∧ PyData.canLayAll0 (pys ds) = true ∧ PyData.depthAll (pys ds) ≤ n
  | [], n, vs, _, r => by cases r; exact ⟨.nil, rfl, Nat.zero_le _⟩
  | x :: xs, n, vs, h, r => by
    obtain ⟨v, q, e, r1, r2⟩ := r
    subst e
    unfold pureNs at h
    cases g : pureN x n with
    | false => rw [g] at h; cases h
    | true =>
      rw [g] at h
      obtain ⟨a1, a2, a3⟩ := py_ok g r1
      obtain ⟨b1, b2, b3⟩ := pys_ok (n := n) h r2
      refine ⟨.cons a1 b1, ?_, Nat.max_le.mpr ⟨a3, b3⟩⟩
      show (PyData.canLay0 (py x) && PyData.canLayAll0 (pys xs)) = true
      rw [a2, b2]; rfl
end

/-! ### == -/
def natsEq : List Nat → List Nat → Bool
  | [], [] => true
  | a :: r, b :: s => cond (Nat.beq a b) (natsEq r s) false
  | _, _ => false
mutual
def dEqB : DV → DV → Bool
  | .non, y => (match y with | .non => true | _ => false)
  | .bl a, y => (match y with | .bl b => (match a, b with | true, true => true | false, false => true | _, _ => false) | .int j => PySem.W.Z.eqB (cond a 1 0) j | _ => false)
  | .int i, y => (match y with | .int j => PySem.W.Z.eqB i j | .bl b => PySem.W.Z.eqB i (cond b 1 0) | _ => false)
  | .str a, y => (match y with | .str b => natsEq a b | _ => false)
  | .tup xs, y => (match y with | .tup ys => dEqBs xs ys | _ => false)
  | .loc _, _ => false
  | .cn _, _ => false
  | .opq, _ => false
  | .act, _ => false
def dEqBs : List DV → List DV → Bool
  | [], ys => (match ys with | [] => true | _ => false)
  | x :: xs, ys => (match ys with | [] => false | y :: ys => cond (dEqB x y) (dEqBs xs ys) false)
end
theorem natsEq_iff : ∀ {a b : List Nat}, natsEq a b = true ↔ a = b
  | [], [] => by simp [natsEq]
  | [], _ :: _ => by simp [natsEq]
  | _ :: _, [] => by simp [natsEq]
  | a :: r, b :: s => by
    unfold natsEq
    cases e : Nat.beq a b with
    | false => simp only [cond_false, Bool.false_eq_true, false_iff]; intro h; cases h; rw [Nat.beq_refl] at e; cases e
    | true => simp only [cond_true]; rw [natsEq_iff, Nat.eq_of_beq_eq_true e]; simp
theorem natsEq_str (a b : List Nat) : natsEq a b = ((⟨a.toArray⟩ : Str) == ⟨b.toArray⟩) := by
  rw [Bool.eq_iff_iff, natsEq_iff]
  simp
theorem eqB_eq (i j : Int) : PySem.W.Z.eqB i j = (i == j) := by
  rw [Bool.eq_iff_iff, PySem.W.Z.eqB_iff]; simp
mutual
theorem dEqB_ok : ∀ (x y : DV) {n m : Nat}, pureN x n = true → pureN y m = true → dEqB x y = PyData.eqv (py x) (py y)
  | .non, y, n, m, h, h' => by cases y <;> first | rfl | cases h'
  | .bl a, y, n, m, h, h' => by
    cases y with
    | bl b => cases a <;> cases b <;> rfl
    | int j => simp only [dEqB, py, PyData.eqv, eqB_eq]; cases a <;> rfl
    | _ => first | rfl | cases h'
  | .int i, y, n, m, h, h' => by
    cases y with
    | bl b => simp only [dEqB, py, PyData.eqv, eqB_eq]; cases b <;> rfl
    | int j => simp only [dEqB, py, PyData.eqv, eqB_eq]
    | _ => first | rfl | cases h'
  | .str a, y, n, m, h, h' => by
    cases y with
    | str b => simp only [dEqB, py, PyData.eqv, natsEq_str]
    | _ => first | rfl | cases h'
  | .tup xs, y, 0, m, h, h' => by cases h
  | .tup xs, y, n + 1, m, h, h' => by
    cases y with
    | tup ys =>
      cases m with
      | zero => cases h'
      | succ m => simp only [dEqB, py, PyData.eqv]; exact dEqBs_ok xs ys (n := n) (m := m) h h'
    | _ => first | rfl | cases h'
  | .loc _, _, _, _, h, _ => by cases h
  | .cn _, _, _, _, h, _ => by cases h
  | .opq, _, _, _, h, _ => by cases h
  | .act, _, _, _, h, _ => by cases h
theorem dEqBs_ok : ∀ (xs ys : List DV) {n m : Nat}, pureNs xs n = true → pureNs ys m = true → dEqBs xs ys = PyData.eqvAll (pys xs) (pys ys)
  | [], ys, n, m, _, _ => by cases ys <;> rfl
  | x :: xs, [], n, m, _, _ => rfl
  | x :: xs, y :: ys, n, m, h, h' => by
    unfold pureNs at h h'
    cases g : pureN x n with
    | false => rw [g] at h; cases h
    | true =>
      cases g' : pureN y m with
      | false => rw [g'] at h'; cases h'
      | true =>
        rw [g] at h
        rw [g'] at h'
        show cond (dEqB x y) (dEqBs xs ys) false = (PyData.eqv (py x) (py y) && PyData.eqvAll (pys xs) (pys ys))
        rw [dEqB_ok x y g g', dEqBs_ok xs ys (n := n) (m := m) h h']
        cases PyData.eqv (py x) (py y) <;> rfl
end

/-- a list by its items, all else by itself -/
inductive Vw where
  | l (xs : List DV)
  | v (d : DV)
  | no
def view (D : DH) : DV → Vw
  | .loc l => (match D.get l with
    | some (.lst _ xs) => .l xs
    | _ => .no)
  | d => .v d
def Vw.py : Vw → PyData
  | .l xs => .list (pys xs)
  | .v d => FH.py d
  | .no => .none
def Vw.pure : Vw → Bool
  | .l xs => pureNs xs 60
  | .v d => pureN d 60
  | .no => false
def Vw.eq : Vw → Vw → Bool
  | .l xs, .l ys => dEqBs xs ys
  | .v x, .v y => dEqB x y
  | _, _ => false
theorem py_nolist (d : DV) (xs : List PyData) : PyData.eqv (py d) (.list xs) = false ∧ PyData.eqv (.list xs) (py d) = false := by
  cases d <;> exact ⟨rfl, rfl⟩
theorem Vw.eq_ok {a b : Vw} (ha : a.pure = true) (hb : b.pure = true) : a.eq b = PyData.eqv a.py b.py := by
  cases a with
  | no => cases ha
  | l xs =>
    cases b with
    | no => cases hb
    | l ys => show dEqBs xs ys = PyData.eqv (.list (pys xs)) (.list (pys ys)); simp only [PyData.eqv]; exact dEqBs_ok xs ys ha hb
    | v y => exact (py_nolist y (pys xs)).2.symm
  | v x =>
    cases b with
    | no => cases hb
    | l ys => exact (py_nolist x (pys ys)).1.symm
    | v y => exact dEqB_ok x y ha hb
theorem JR.seqL {T : Tb} {ρ : List Addr} {H : Hp} {a : Addr} {fz : Bool} {xs : List DV} (h : JR T ρ H a (.lst fz xs)) : ∃ vs, VRs T ρ H xs vs ∧ SqL T.K H a vs := by
  cases fz with
  | false => obtain ⟨vs, r, e⟩ := h; exact ⟨vs, r, SqL.of e⟩
  | true => obtain ⟨vs, o, r, e⟩ := h; exact ⟨vs, r, .inl (.inr ⟨o, e⟩)⟩
theorem HR.at {T : Tb} {ρ : List Addr} {H : Hp} {D : DH} (h : HR T ρ D H) {l : Nat} {v : V} (r : VR T ρ H (.loc l) v) {o : DO} (g : D.get l = some o) : ∃ a, v = .ref a ∧ ρ[l]? = some a ∧ JR T ρ H a o := by
  obtain ⟨a, e, q⟩ := r
  obtain ⟨o', g', j⟩ := h.obj l a e
  rw [g] at g'; cases g'
  exact ⟨a, q, e, j⟩
theorem view_ok {T : Tb} {ρ : List Addr} {H : Hp} {D : DH} (h : HR T ρ D H) {d : DV} {v : V} (r : VR T ρ H d v) (p : (view D d).pure = true) : Dp T.K H v (view D d).py ∧ SeqAt.shaped (view D d).py = true := by
  have fin : ∀ {d : DV}, VR T ρ H d v → pureN d 60 = true → Dp T.K H v (py d) ∧ SeqAt.shaped (py d) = true := fun {d} r p => by
    obtain ⟨a1, a2, a3⟩ := py_ok p r
    refine ⟨a1, ?_⟩
    show ((py d).canLay0 && decide ((py d).depth ≤ 64)) = true
    rw [a2, decide_eq_true (show (py d).depth ≤ 64 by omega)]; rfl
  cases d with
  | loc l =>
    cases g : D.get l with
    | none => simp only [view, g] at p; cases p
    | some o =>
      simp only [view, g] at p ⊢
      cases o with
      | lst fz xs =>
        obtain ⟨a, q, _, j⟩ := h.at r g
        subst q
        obtain ⟨vs, rv, s⟩ := j.seqL
        obtain ⟨a1, a2, a3⟩ := pys_ok (n := 60) p rv
        refine ⟨.lst s a1, ?_⟩
        show (PyData.canLayAll0 (pys xs) && decide (PyData.depthAll (pys xs) + 1 ≤ 64)) = true
        rw [a2, decide_eq_true (show PyData.depthAll (pys xs) + 1 ≤ 64 by omega)]; rfl
      | _ => cases p
  | non => exact fin r p
  | bl _ => exact fin r p
  | int _ => exact fin r p
  | str _ => exact fin r p
  | tup _ => exact fin r p
  | cn _ => exact fin r p
  | opq => exact fin r p
  | act => exact r.elim
def dEq (neg : Bool) (x y : DV) (D : DH) : R DV := cond (view D x).pure (cond (view D y).pure (.ok (.bl (match (view D x).eq (view D y), neg with | true, true => false | true, false => true | false, true => true | false, false => false)) D) .bad) .bad
theorem cond_ok {T : Tb} {ρ : List Addr} {H : Hp} {c : Bool} {r : R DV} {Q : VK} (p : pE T ρ H (cond c r .bad) Q) : c = true ∧ pE T ρ H r Q := by
  cases c with
  | true => exact ⟨rfl, p⟩
  | false => exact p.elim
theorem dEq_of {T : Tb} : ∀ x y H Q, r2 T (dEq false) x y H Q → rEqD T.K x y H Q := fun x y H Q ⟨ρ, D, a, b, h, ra, rb, p⟩ => by
  obtain ⟨c1, p⟩ := cond_ok p
  obtain ⟨c2, p⟩ := cond_ok p
  obtain ⟨d1, s1⟩ := view_ok h ra c1
  obtain ⟨d2, s2⟩ := view_ok h rb c2
  refine ⟨_, _, d1, d2, s1, s2, ?_⟩
  rw [← Vw.eq_ok c1 c2]
  refine pE_ok h (d := .bl ((view D a).eq (view D b))) rfl ?_
  cases e : (view D a).eq (view D b) <;> rw [e] at p <;> exact p
theorem dNe_of {T : Tb} : ∀ x y H Q, r2 T (dEq true) x y H Q → rNeD T.K x y H Q := fun x y H Q ⟨ρ, D, a, b, h, ra, rb, p⟩ => by
  obtain ⟨c1, p⟩ := cond_ok p
  obtain ⟨c2, p⟩ := cond_ok p
  obtain ⟨d1, s1⟩ := view_ok h ra c1
  obtain ⟨d2, s2⟩ := view_ok h rb c2
  refine ⟨_, _, d1, d2, s1, s2, ?_⟩
  rw [← Vw.eq_ok c1 c2]
  refine pE_ok h (d := .bl (!(view D a).eq (view D b))) rfl ?_
  cases e : (view D a).eq (view D b) <;> rw [e] at p <;> exact p
end FH

namespace FH
open PySem PySem.Spec PyProof.Rows L2

/-- a context of ours: a def's body (or a comprehension's block in it), with room for k calls -/
structure Cn (T : Tb) (k : Nat) (X : Cx) : Prop where
  P : X.prog = T.P
  w : X.w = T.w
  K : X.K = T.K
  mg : X.mg = T.mg
  base : X.base = T.base
  calm : X.calm = true
  nd : X.N.Nodup
  room : Room k X.A
  xe : X.xe = fun _ _ => False
theorem Cn.mono {T : Tb} {j k : Nat} {X : Cx} (c : Cn T k X) (h : j ≤ k) : Cn T j X := ⟨c.P, c.w, c.K, c.mg, c.base, c.calm, c.nd, c.room.mono h, c.xe⟩
theorem Cn.units {T : Tb} {k : Nat} {X : Cx} (c : Cn T k X) : X.A.units + 66 < cLine := by have := c.room.un; omega
theorem Cn.hu {T : Tb} {k : Nat} {X : Cx} (c : Cn T k X) : X.A.units + 1 < cLine := by have := c.units; omega
theorem Cn.pass {T : Tb} {k : Nat} {X : Cx} (c : Cn T k X) : PassesOwn (model X.prog X.w) X.A X.env X.xe := by rw [c.xe]; exact PassesOwn.never
theorem OpRw {X : Cx} {f : Value → Value → Sem Value} {r r' : R2} (h : OpR X f r) (w : ∀ x y H Q, r' x y H Q → r x y H Q) : OpR X f r' :=
  fun pins s σ H x y v u Q I rx ry q => h pins s σ H x y v u Q I rx ry (w _ _ _ _ q)
theorem UnRw {X : Cx} {f : Value → Sem Value} {r r' : V → Hp → VK → Prop} (h : UnR X f r) (w : ∀ x H Q, r' x H Q → r x H Q) : UnR X f r' :=
  fun pins s σ H x v Q I rx q => h pins s σ H x v Q I rx (w _ _ _ q)
theorem CallRw {X : Cx} {f : Value} {r r' : List V → Hp → VK → Prop} (h : CallR X f r) (w : ∀ xs H Q, r' xs H Q → r xs H Q) : CallR X f r' :=
  fun pins s σ H xs us Q I rx q => h pins s σ H xs us Q I rx (w _ _ _ q)
section
variable {T : Tb} {k : Nat} {X : Cx} {a b c e : Expr} {ma mb : ME} {pos : Pos}
theorem op_eqM (c : Cn T k X) : OpR X (compareOp .Eq) (r2 T (dEq false)) := OpRw (op_eqD (by have := c.units; omega)) fun x y H Q q => by rw [c.K]; exact dEq_of x y H Q q
theorem op_neM (c : Cn T k X) : OpR X (compareOp .NotEq) (r2 T (dEq true)) := OpRw (op_neD (by have := c.units; omega)) fun x y H Q q => by rw [c.K]; exact dNe_of x y H Q q
end

/-! ### numbers, order -/
def dCmpI (f : Int → Int → Bool) : DV → DV → DH → R DV
  | .int i, .int j, D => .ok (.bl (f i j)) D
  | _, _, _ => .bad
theorem dCmpI_of {T : Tb} {f : Int → Int → Bool} {g : Int → Int → Bool} (e : ∀ i j, f i j = g i j) : ∀ x y H Q, r2 T (dCmpI f) x y H Q → rI0 (fun i j => .bl (g i j)) x y H Q := fun x y H Q ⟨ρ, D, a, b, h, ra, rb, p⟩ => by
  cases a with
  | int i =>
    cases b with
    | int j => exact ⟨i, j, ra, rb, by show Q (.bl (g i j)) H; rw [← e]; exact pE_ok h (d := .bl (f i j)) rfl p⟩
    | _ => exact p.elim
  | _ => exact p.elim
theorem ltB_dec (i j : Int) : PySem.W.Z.ltB i j = decide (i < j) := by rw [Bool.eq_iff_iff, PySem.W.Z.ltB_iff]; simp
theorem leB_dec (i j : Int) : PySem.W.Z.leB i j = decide (i ≤ j) := by rw [Bool.eq_iff_iff, PySem.W.Z.leB_iff]; simp
def natsLt : List Nat → List Nat → Bool
  | _, [] => false
  | [], _ :: _ => true
  | a :: r, b :: s => cond (Nat.blt a b) true (cond (Nat.beq a b) (natsLt r s) false)
theorem natsLt_dec : ∀ a b : List Nat, natsLt a b = decide (a < b)
  | [], [] => by simp [natsLt]
  | _ :: _, [] => by simp [natsLt]
  | [], _ :: _ => by simp [natsLt]
  | a :: r, b :: s => by
    unfold natsLt
    rw [natsLt_dec r s, Bool.eq_iff_iff]
    simp only [decide_eq_true_eq, List.cons_lt_cons_iff]
    cases e : Nat.blt a b with
    | true => simp only [cond_true, true_iff]; exact .inl (Nat.le_of_ble_eq_true e)
    | false =>
      have nl : ¬ a < b := fun q => by rw [show Nat.blt a b = true from Nat.ble_eq_true_of_le q] at e; cases e
      cases e2 : Nat.beq a b with
      | true =>
        have := Nat.eq_of_beq_eq_true e2
        subst this
        simp
      | false =>
        have := Nat.ne_of_beq_eq_false e2
        simp [nl, this]
/-- ints, and texts by their codes -/
def dLt : DV → DV → DH → R DV
  | .int i, .int j, D => .ok (.bl (PySem.W.Z.ltB i j)) D
  | .str a, .str b, D => .ok (.bl (natsLt a b)) D
  | _, _, _ => .bad
def dLe : DV → DV → DH → R DV
  | .int i, .int j, D => .ok (.bl (PySem.W.Z.leB i j)) D
  | .str a, .str b, D => .ok (.bl (!natsLt b a)) D
  | _, _, _ => .bad
section
variable {T : Tb} {k : Nat} {X : Cx} {a b c e : Expr} {ma mb : ME} {pos : Pos}
theorem op_ltM : OpR X (compareOp .Lt) (r2 T dLt) := OpRw (op_lt.or op_lt_str) fun x y H Q ⟨ρ, D, a, b, h, ra, rb, p⟩ => by
  cases a with
  | int i =>
    cases b with
    | int j => exact .inl ⟨i, j, ra, rb, by show Q (.bl (decide (i < j))) H; rw [← ltB_dec]; exact pE_ok h (d := .bl _) rfl p⟩
    | _ => exact p.elim
  | str i =>
    cases b with
    | str j => exact .inr ⟨_, _, ra, rb, by rw [show decide (i.toArray.toList < j.toArray.toList) = natsLt i j from (natsLt_dec i j).symm]; exact pE_ok h (d := .bl _) rfl p⟩
    | _ => exact p.elim
  | _ => exact p.elim
theorem op_leM : OpR X (compareOp .LtE) (r2 T dLe) := OpRw (op_le.or op_le_str) fun x y H Q ⟨ρ, D, a, b, h, ra, rb, p⟩ => by
  cases a with
  | int i =>
    cases b with
    | int j => exact .inl ⟨i, j, ra, rb, by show Q (.bl (decide (i ≤ j))) H; rw [← leB_dec]; exact pE_ok h (d := .bl _) rfl p⟩
    | _ => exact p.elim
  | str i =>
    cases b with
    | str j => exact .inr ⟨_, _, ra, rb, by rw [show decide (j.toArray.toList < i.toArray.toList) = natsLt j i from (natsLt_dec j i).symm]; exact pE_ok h (d := .bl _) rfl p⟩
    | _ => exact p.elim
  | _ => exact p.elim
theorem op_gtM : OpR X (compareOp .Gt) (r2 T (dCmpI fun i j => PySem.W.Z.ltB j i)) := OpRw op_gt (dCmpI_of fun i j => ltB_dec j i)
theorem op_geM : OpR X (compareOp .GtE) (r2 T (dCmpI fun i j => PySem.W.Z.leB j i)) := OpRw op_ge (dCmpI_of fun i j => leB_dec j i)
end
/-- is None, is not None -/
def isNon : DV → Bool
  | .non => true
  | _ => false
theorem isNon_ok {T : Tb} {ρ : List Addr} {H : Hp} {d : DV} {v : V} (r : VR T ρ H d v) (hc : ∀ c, d ≠ .cn c) (ho : d ≠ .opq) : isNon d = decide (v = .non) := by
  cases d with
  | non => cases r; rfl
  | bl _ => cases r; rfl
  | int _ => cases r; rfl
  | str _ => cases r; rfl
  | tup _ => obtain ⟨_, _, e, _⟩ := r; subst e; rfl
  | loc _ => obtain ⟨_, _, e⟩ := r; subst e; rfl
  | cn c => exact absurd rfl (hc c)
  | opq => exact absurd rfl ho
  | act => exact r.elim
def dIsN (neg : Bool) : DV → DH → R DV
  | .cn _, _ => .bad
  | .opq, _ => .bad
  | d, D => .ok (.bl (cond neg (!isNon d) (isNon d))) D
section
variable {T : Tb} {k : Nat} {X : Cx} {a b c e : Expr} {ma mb : ME} {pos pos' : Pos}
theorem dIsN_of {neg : Bool} {x : V} {H : Hp} {Q : VK} (q : r1 T (dIsN neg) x H Q) : Q (.bl (cond neg (!decide (x = .non)) (decide (x = .non)))) H := by
  obtain ⟨ρ, D, d, h, r, p⟩ := q
  have fin : ∀ {d : DV}, VR T ρ H d x → (∀ c, d ≠ .cn c) → d ≠ .opq → pE T ρ H (.ok (.bl (cond neg (!isNon d) (isNon d))) D) Q → Q (.bl (cond neg (!decide (x = .non)) (decide (x = .non)))) H := fun {d} r h1 h2 p => by
    rw [isNon_ok r h1 h2] at p
    exact pE_ok h (d := .bl _) rfl p
  cases d with
  | cn c => exact p.elim
  | opq => exact p.elim
  | act => exact r.elim
  | non => exact fin r (fun _ z => by cases z) (fun z => by cases z) p
  | bl _ => exact fin r (fun _ z => by cases z) (fun z => by cases z) p
  | int _ => exact fin r (fun _ z => by cases z) (fun z => by cases z) p
  | str _ => exact fin r (fun _ z => by cases z) (fun z => by cases z) p
  | tup _ => exact fin r (fun _ z => by cases z) (fun z => by cases z) p
  | loc _ => exact fin r (fun _ z => by cases z) (fun z => by cases z) p
theorem isN_read {neg : Bool} {σ : L2.St} {H : Hp} {Q : VK} (q : rE T (mUn (dIsN neg) ma) σ H Q) : rE T ma σ H (fun x H1 => Q (.bl (cond neg (!decide (x = .non)) (decide (x = .non)))) H1) :=
  tUn_of (T := T) (r := fun x H1 Q => Q (.bl (cond neg (!decide (x = .non)) (decide (x = .non)))) H1) (fun x H Q q => dIsN_of q) q
theorem ex_isN {j} (ha : PE X a (rE T ma)) : PE X (.Compare a [.Is] [.Constant .none j pos'] pos) (rE T (mUn (dIsN false) ma)) := PEw (pe_cmp (pc_isN ha)) fun σ H Q q => isN_read q
theorem ex_notN {j} (ha : PE X a (rE T ma)) : PE X (.Compare a [.IsNot] [.Constant .none j pos'] pos) (rE T (mUn (dIsN true) ma)) := PEw (pe_cmp (pc_notN ha)) fun σ H Q q => isN_read q
theorem tx_isN {j} (ha : PE X a (rE T ma)) : PT X (.Compare a [.Is] [.Constant .none j pos'] pos) (rT T (tV (mUn (dIsN false) ma))) := PTw (pt_cmp (pc_isN ha)) fun σ H Q q => tV_of (fun _ _ _ z => isN_read z) q
theorem tx_notN {j} (ha : PE X a (rE T ma)) : PT X (.Compare a [.IsNot] [.Constant .none j pos'] pos) (rT T (tV (mUn (dIsN true) ma))) := PTw (pt_cmp (pc_notN ha)) fun σ H Q q => tV_of (fun _ _ _ z => isN_read z) q
/-- a op1 b op2 c -/
def mChain (f g : DV → DV → DH → R DV) (a b c : ME) : ME := fun σ D => match a σ D with
  | .ok x D1 => (match b σ D1 with
    | .ok y D2 => (match f x y D2 with
      | .ok (.bl true) D3 => (match c σ D3 with
        | .ok z D4 => g y z D4
        | .bad => .bad)
      | .ok (.bl false) D3 => .ok (.bl false) D3
      | _ => .bad)
    | .bad => .bad)
  | .bad => .bad
theorem chain_of {f g : DV → DV → DH → R DV} {mc : ME} {σ : L2.St} {H : Hp} {Q : VK} (q : rE T (mChain f g ma mb mc) σ H Q) : tChain (r2 T f) (r2 T g) (rE T ma) (rE T mb) (rE T mc) σ H Q := by
  obtain ⟨ρ, σd, D, sr, h, p⟩ := q
  refine ⟨ρ, σd, D, sr, h, ?_⟩
  unfold mChain at p
  cases g1 : ma σd D with
  | bad => rw [g1] at p; exact p.elim
  | ok x D1 =>
    rw [g1] at p
    intro ρ1 H1 v u1 h1 r1
    refine ⟨ρ1, σd, D1, sr.up u1, h1, ?_⟩
    dsimp only at p
    cases g2 : mb σd D1 with
    | bad => rw [g2] at p; exact p.elim
    | ok y D2 =>
      rw [g2] at p
      intro ρ2 H2 w u2 h2 r2
      dsimp only at p
      refine ⟨ρ2, D2, x, y, h2, r1.up u2, r2, ?_⟩
      cases g3 : f x y D2 with
      | bad => rw [g3] at p; exact p.elim
      | ok z D3 =>
        rw [g3] at p
        cases z with
        | bl t =>
          cases t with
          | true =>
            intro ρ3 H3 z u3 h3 r3
            refine ⟨true, r3, iteT ⟨ρ3, σd, D3, sr.up (u1.trans (u2.trans u3)), h3, ?_⟩⟩
            dsimp only at p
            cases g4 : mc σd D3 with
            | bad => rw [g4] at p; exact p.elim
            | ok z4 D4 =>
              rw [g4] at p
              intro ρ4 H4 z' u4 h4 r4
              exact ⟨ρ4, D4, y, z4, h4, r2.up (u3.trans u4), r4, p.up (u1.trans (u2.trans (u3.trans u4)))⟩
          | false =>
            intro ρ3 H3 z u3 h3 r3
            exact ⟨false, r3, iteF (p ρ3 H3 (.bl false) (u1.trans (u2.trans u3)) h3 rfl)⟩
        | _ => exact p.elim
theorem ex_chain {op op' : CmpOp} {f g : DV → DV → DH → R DV} {mc : ME} (ho : OpR X (compareOp op) (r2 T f)) (ho' : OpR X (compareOp op') (r2 T g)) (ha : PE X a (rE T ma)) (hb : PE X b (rE T mb)) (hc : PE X c (rE T mc))
    (hm : lastMarks [op, op'] [b, c] = false := by with_unfolding_all rfl) : PE X (.Compare a [op, op'] [b, c] pos) (rE T (mChain f g ma mb mc)) := PEw (pe_chain ho ho' ha hb hc hm) fun σ H Q q => chain_of q
theorem tx_chain {op op' : CmpOp} {f g : DV → DV → DH → R DV} {mc : ME} (ho : OpR X (compareOp op) (r2 T f)) (ho' : OpR X (compareOp op') (r2 T g)) (ha : PE X a (rE T ma)) (hb : PE X b (rE T mb)) (hc : PE X c (rE T mc))
    (hm : lastMarks [op, op'] [b, c] = false := by with_unfolding_all rfl) : PT X (.Compare a [op, op'] [b, c] pos) (rT T (tV (mChain f g ma mb mc))) := PTw (pt_chain ho ho' ha hb hc hm) fun σ H Q q => tV_of (fun _ _ _ z => chain_of z) q
/-- a test by a value's truth -/
theorem tx_tru {m : ME} (c : Cn T k X) (h : PE X e (rE T m)) (he : ∀ whole, isTrue e X.env whole = (do let v ← whole; standAt e.pos; holding [v] (truthy v)) := by intro _; rfl) : PT X e (rT T (tTru m)) := by
  refine PTw (pt_truth h he) fun σ H Q ⟨ρ, σd, D, sr, hr, p⟩ => ⟨ρ, σd, D, sr, hr, ?_⟩
  unfold tTru at p
  cases g : m σd D with
  | bad => rw [g] at p; exact p.elim
  | ok x D1 =>
    rw [g] at p
    intro ρ1 H1 v u1 h1 r1
    have p : pT T ρ1 H1 (truth x D1) Q := p.up u1
    have fin : ∀ {t t' : Bool}, t = t' → pT T ρ1 H1 (.ok t D1) Q → Q t' H1 := fun e p => by subst e; exact p ρ1 H1 (Up.refl _ _) h1
    cases x with
    | non => cases r1; exact ⟨false, rfl, fin rfl p⟩
    | bl t => cases r1; exact ⟨t, rfl, fin rfl p⟩
    | int i =>
      cases r1
      refine ⟨i != 0, rfl, fin ?_ p⟩
      cases i with
      | ofNat n => cases n <;> rfl
      | negSucc n => rfl
    | str cs =>
      cases r1
      have p : pT T ρ1 H1 (cond (Nat.ble cs.length lineN) (.ok (!cs.isEmpty) D1) .bad) Q := p
      cases e : Nat.ble cs.length lineN with
      | false => rw [e] at p; exact p.elim
      | true =>
        rw [e] at p
        refine ⟨_, ⟨?_, rfl⟩, fin ?_ p⟩
        · exact ble_line e
        · cases cs <;> simp [Str.length]
          intro q
          omega
    | tup xs =>
      obtain ⟨a, vs, q, s, rv⟩ := r1
      subst q
      have hl := rv.len
      rw [c.K]
      refine ⟨_, .inr (.inl ⟨vs, s, rfl⟩), fin ?_ p⟩
      cases xs <;> cases vs <;> first | rfl | (simp at hl)
    | loc l =>
      have p : pT T ρ1 H1 (match D1.get l with
        | some (.lst _ xs) => .ok (!xs.isEmpty) D1
        | some (.dK false kvs) => .ok (!kvs.isEmpty) D1
        | _ => .bad) Q := p
      cases g2 : D1.get l with
      | none => rw [g2] at p; exact p.elim
      | some o =>
        rw [g2] at p
        obtain ⟨a, q, _, j⟩ := h1.at r1 g2
        subst q
        cases o with
        | lst fz xs =>
          obtain ⟨vs, rv, s⟩ := j.seqL
          have hl := rv.len
          rw [c.K]
          refine ⟨_, .inl ⟨vs, s, rfl⟩, fin ?_ p⟩
          cases xs <;> cases vs <;> first | rfl | (simp at hl)
        | dK fz kvs =>
          cases fz with
          | true => exact p.elim
          | false =>
            obtain ⟨ks, rk, e⟩ := j
            refine ⟨_, .inr (.inr ⟨ks, e, rfl⟩), fin ?_ p⟩
            cases kvs with
            | nil => cases rk; rfl
            | cons kv r =>
              obtain ⟨k, d⟩ := kv
              obtain ⟨k', v', r', e', _⟩ := rk
              subst e'; rfl
        | _ => exact p.elim
    | _ => exact p.elim
end
end FH

namespace FH
open PySem PySem.Spec PyProof.Rows L2

/-! ### + - * // % -/
def dAdd : DV → DV → DH → R DV
  | .int i, .int j, D => .ok (.int (Int.add i j)) D
  | .str a, .str b, D => cond (Nat.ble (a.length + b.length) lineN) (.ok (.str (a ++ b)) D) .bad
  | .tup xs, .tup ys, D => cond (Nat.ble (xs.length + ys.length) lineN) (.ok (.tup (xs ++ ys)) D) .bad
  | .loc l, .loc m, D => (match D.get l, D.get m with
    | some (.lst false xs), some (.lst false ys) => cond (Nat.ble (xs.length + ys.length) lineN) (D.new (.lst false (xs ++ ys))) .bad
    | _, _ => .bad)
  | _, _, _ => .bad
def dSub : DV → DV → DH → R DV
  | .int i, .int j, D => .ok (.int (Int.sub i j)) D
  | _, _, _ => .bad
/-- the one factor small; or a list, so many times -/
def small : Int → Bool
  | .ofNat n => Nat.blt n 18446744073709551616
  | .negSucc n => Nat.blt (n + 1) 18446744073709551616
def repN (n : Nat) (xs : List DV) : List DV := (List.replicate n xs).flatten
def dMul : DV → DV → DH → R DV
  | .int i, .int j, D => cond (small j) (.ok (.int (Int.mul i j)) D) (cond (small i) (.ok (.int (Int.mul i j)) D) .bad)
  | .loc l, .int (.ofNat n), D => (match D.get l with
    | some (.lst false xs) => cond (Nat.blt n 1000000) (cond (Nat.ble (xs.length * n) lineN) (D.new (.lst false (repN n xs))) .bad) .bad
    | _ => .bad)
  | _, _, _ => .bad
def dFdiv : DV → DV → DH → R DV
  | .int i, .int (.ofNat n), D => cond (Nat.beq n 0) .bad (cond (Nat.blt n 1073741824) (.ok (.int (Int.fdiv i (.ofNat n))) D) .bad)
  | _, _, _ => .bad
def dMod : DV → DV → DH → R DV
  | .int i, .int (.ofNat n), D => cond (Nat.beq n 0) .bad (.ok (.int (Int.fmod i (.ofNat n))) D)
  | _, _, _ => .bad
theorem small_ok {i : Int} (h : small i = true) : -(2 ^ 64) < i ∧ i < 2 ^ 64 := by
  cases i with
  | ofNat n =>
    have : n < 18446744073709551616 := Nat.le_of_ble_eq_true h
    constructor
    · show -(2 ^ 64 : Int) < (n : Int); omega
    · show (n : Int) < 2 ^ 64; omega
  | negSucc n =>
    have : n + 1 < 18446744073709551616 := Nat.le_of_ble_eq_true h
    constructor <;> omega
theorem cond_no {T : Tb} {ρ : List Addr} {H : Hp} {c : Bool} {r : R DV} {Q : VK} (p : pE T ρ H (cond c .bad r) Q) : c = false ∧ pE T ρ H r Q := by
  cases c with
  | false => exact ⟨rfl, p⟩
  | true => exact p.elim
theorem JR.lst {T : Tb} {ρ : List Addr} {H : Hp} {a : Addr} {xs : List DV} (h : JR T ρ H a (.lst false xs)) : ∃ vs, VRs T ρ H xs vs ∧ H a = some (.lst vs) := h
theorem VRs.rep {T : Tb} {ρ : List Addr} {H : Hp} {xs : List DV} {vs : List V} (r : VRs T ρ H xs vs) : ∀ n, VRs T ρ H (List.replicate n xs).flatten (List.replicate n vs).flatten
  | 0 => rfl
  | n + 1 => by
    rw [List.replicate_succ, List.replicate_succ, List.flatten_cons, List.flatten_cons]
    exact r.app (VRs.rep r n)
section
variable {T : Tb} {k : Nat} {X : Cx} {a b c e : Expr} {ma mb : ME} {pos : Pos}
theorem op_addM (c : Cn T k X) : OpR X (binaryOp .Add) (r2 T dAdd) := OpRw ((op_add.or op_add_str).or ((op_catA (X := X)).or op_cat)) fun x y H Q ⟨ρ, D, a, b, h, ra, rb, p⟩ => by
  cases a with
  | int i =>
    cases b with
    | int j => exact .inl (.inl ⟨i, j, ra, rb, pE_ok h (d := .int (Int.add i j)) rfl p⟩)
    | _ => exact p.elim
  | str i =>
    cases b with
    | str j =>
      obtain ⟨q, p⟩ := cond_ok p
      refine .inl (.inr ⟨_, _, ra, rb, ?_, pE_ok h (d := .str (i ++ j)) ?_ p⟩)
      · exact ble_line q
      · show V.str _ = V.str _
        congr 1
        show Str.append _ _ = _
        simp [Str.append]
    | _ => exact p.elim
  | tup xs =>
    cases b with
    | tup ys =>
      obtain ⟨q, p⟩ := cond_ok p
      obtain ⟨a, vs, e1, s1, q1⟩ := ra
      obtain ⟨b, ws, e2, s2, q2⟩ := rb
      refine .inr (.inl ⟨a, b, vs, ws, e1, e2, by rw [c.K]; exact s1, by rw [c.K]; exact s2, by rw [q1.len, q2.len]; exact ble_line q, fun z => ?_, fun z z' => ?_, fun z z' t ht => ?_⟩)
      · subst z
        cases xs with
        | nil => exact pE_ok h (d := .tup ([] ++ ys)) ⟨b, ws, rfl, s2, q2⟩ p
        | cons x xs => have := q1.len; simp at this
      · subst z'
        cases ys with
        | nil => exact pE_ok h (d := .tup (xs ++ [])) ⟨a, vs, rfl, s1, by rw [List.append_nil]; exact q1⟩ p
        | cons x xs => have := q2.len; simp at this
      · exact pE_tup h (q1.app q2) p ht
    | _ => exact p.elim
  | loc l =>
    cases b with
    | loc m =>
      have p : pE T ρ H (match D.get l, D.get m with
        | some (.lst false xs), some (.lst false ys) => cond (Nat.ble (xs.length + ys.length) lineN) (D.new (.lst false (xs ++ ys))) .bad
        | _, _ => .bad) Q := p
      cases g1 : D.get l with
      | none => rw [g1] at p; exact p.elim
      | some o =>
        cases g2 : D.get m with
        | none =>
          rw [g1, g2] at p
          cases o with
          | lst fz xs => cases fz <;> exact p.elim
          | _ => exact p.elim
        | some o2 =>
          rw [g1, g2] at p
          obtain ⟨a, e1, _, j1⟩ := h.at ra g1
          obtain ⟨b, e2, _, j2⟩ := h.at rb g2
          cases o with
          | lst fz xs =>
            cases fz with
            | true => exact p.elim
            | false =>
              cases o2 with
              | lst fz ys =>
                cases fz with
                | true => exact p.elim
                | false =>
                  obtain ⟨q, p⟩ := cond_ok p
                  obtain ⟨vs, r1, h1⟩ := j1.lst
                  obtain ⟨ws, r2, h2⟩ := j2.lst
                  exact .inr (.inr ⟨a, b, vs, ws, e1, e2, h1, h2, by rw [r1.len, r2.len]; exact ble_line q, fun t ht => pE_new h p ht ⟨_, (r1.app r2).up (up_add ht), upd_same⟩⟩)
              | _ => exact p.elim
          | _ => exact p.elim
    | _ => exact p.elim
  | _ => exact p.elim
theorem op_subM : OpR X (binaryOp .Sub) (r2 T dSub) := OpRw op_sub fun x y H Q ⟨ρ, D, a, b, h, ra, rb, p⟩ => by
  cases a with
  | int i =>
    cases b with
    | int j => exact ⟨i, j, ra, rb, pE_ok h (d := .int (Int.sub i j)) rfl p⟩
    | _ => exact p.elim
  | _ => exact p.elim
theorem op_mulM : OpR X (binaryOp .Mult) (r2 T dMul) := OpRw (op_mul.or op_rep) fun x y H Q ⟨ρ, D, a, b, h, ra, rb, p⟩ => by
  cases a with
  | int i =>
    cases b with
    | int j =>
      have p : pE T ρ H (cond (small j) (.ok (.int (Int.mul i j)) D) (cond (small i) (.ok (.int (Int.mul i j)) D) .bad)) Q := p
      cases e : small j with
      | true =>
        rw [e] at p
        exact .inl ⟨i, j, ra, rb, .inr (small_ok e), pE_ok h (d := .int (Int.mul i j)) rfl p⟩
      | false =>
        rw [e] at p
        obtain ⟨q, p⟩ := cond_ok p
        exact .inl ⟨i, j, ra, rb, .inl (small_ok q), pE_ok h (d := .int (Int.mul i j)) rfl p⟩
    | _ => exact p.elim
  | loc l =>
    cases b with
    | int j =>
      cases j with
      | negSucc n => exact p.elim
      | ofNat n =>
        have p : pE T ρ H (match D.get l with
          | some (.lst false xs) => cond (Nat.blt n 1000000) (cond (Nat.ble (xs.length * n) lineN) (D.new (.lst false (repN n xs))) .bad) .bad
          | _ => .bad) Q := p
        cases g1 : D.get l with
        | none => rw [g1] at p; exact p.elim
        | some o =>
          rw [g1] at p
          obtain ⟨a, e1, _, j1⟩ := h.at ra g1
          cases o with
          | lst fz xs =>
            cases fz with
            | true => exact p.elim
            | false =>
              obtain ⟨q, p⟩ := cond_ok p
              obtain ⟨q2, p⟩ := cond_ok p
              obtain ⟨vs, r1, h1⟩ := j1.lst
              have hn : n < 1000000 := Nat.le_of_ble_eq_true q
              exact .inr ⟨a, _, vs, e1, rb, h1, by show -(2 ^ 63 : Int) ≤ (n : Int); omega, by show (n : Int) < 2 ^ 63; omega, by rw [r1.len]; exact ble_line q2, fun t ht => pE_new h p ht ⟨_, (r1.rep n).up (up_add ht), upd_same⟩⟩
          | _ => exact p.elim
    | _ => exact p.elim
  | _ => exact p.elim
theorem op_fdivM : OpR X (binaryOp .FloorDiv) (r2 T dFdiv) := OpRw op_fdivN fun x y H Q ⟨ρ, D, a, b, h, ra, rb, p⟩ => by
  cases a with
  | int i =>
    cases b with
    | int j =>
      cases j with
      | negSucc n => exact p.elim
      | ofNat n =>
        obtain ⟨q, p⟩ := cond_no p
        obtain ⟨q2, p⟩ := cond_ok p
        have h0 := Nat.ne_of_beq_eq_false q
        have h1 : n < 1073741824 := Nat.le_of_ble_eq_true q2
        exact ⟨i, _, ra, rb, ⟨by show ((n : Nat) : Int) ≠ 0; omega, by show ((n : Nat) : Int).natAbs < 1073741824; omega⟩, pE_ok h (d := .int _) rfl p⟩
    | _ => exact p.elim
  | _ => exact p.elim
theorem op_modM : OpR X (binaryOp .Mod) (r2 T dMod) := OpRw op_modN fun x y H Q ⟨ρ, D, a, b, h, ra, rb, p⟩ => by
  cases a with
  | int i =>
    cases b with
    | int j =>
      cases j with
      | negSucc n => exact p.elim
      | ofNat n =>
        obtain ⟨q, p⟩ := cond_no p
        have h0 := Nat.ne_of_beq_eq_false q
        exact ⟨i, _, ra, rb, (by show ((n : Nat) : Int) ≠ 0; omega), pE_ok h (d := .int _) rfl p⟩
    | _ => exact p.elim
  | _ => exact p.elim
end
def dNeg : DV → DH → R DV
  | .int i, D => .ok (.int (Int.neg i)) D
  | _, _ => .bad
theorem ex_neg {T : Tb} {X : Cx} {a : Expr} {ma : ME} {pos : Pos} (ha : PE X a (rE T ma)) : PE X (.UnaryOp .USub a pos) (rE T (mUn dNeg ma)) :=
  PEw (pe_un un_neg ha) fun σ H Q q => tUn_of (T := T) (fun x H Q ⟨ρ, D, a, h, ra, p⟩ => by
    cases a with
    | int i => exact ⟨i, ra, pE_ok h (d := .int _) rfl p⟩
    | _ => exact p.elim) q

/-! ### in, not in: a list, a tuple of plain data -/
def anyEq (x : DV) : List DV → Bool
  | [] => false
  | y :: r => cond (dEqB y x) true (anyEq x r)
def items (D : DH) : DV → Option (List DV)
  | .tup xs => some xs
  | .loc l => (match D.get l with
    | some (.lst _ xs) => some xs
    | _ => none)
  | _ => none
def dIn (neg : Bool) (x y : DV) (D : DH) : R DV := match items D y with
  | some ys => cond (pureN x 60) (cond (pureNs ys 60) (.ok (.bl (cond neg (!anyEq x ys) (anyEq x ys))) D) .bad) .bad
  | none => .bad
theorem anyEq_ok {x : DV} {n m : Nat} (hx : pureN x n = true) : ∀ {ys : List DV}, pureNs ys m = true → anyEq x ys = (pys ys).any fun z => PyData.eqv z (py x)
  | [], _ => rfl
  | y :: r, h => by
    unfold pureNs at h
    cases g : pureN y m with
    | false => rw [g] at h; cases h
    | true =>
      rw [g] at h
      show cond (dEqB y x) true (anyEq x r) = (PyData.eqv (py y) (py x) || (pys r).any fun z => PyData.eqv z (py x))
      rw [dEqB_ok y x g hx, anyEq_ok hx h]
      cases PyData.eqv (py y) (py x) <;> rfl
def rInS2 (K : PySem.W.Frag) (neg : Bool) : R2 := fun x y H Q => ∃ d ds, Dp K H x d ∧ (Dp K H y (.list ds) ∨ Dp K H y (.tuple ds)) ∧ SeqAt.shaped d = true ∧ PyData.canLayAll0 ds = true ∧ Q (.bl (cond neg (!(ds.any fun z => PyData.eqv z d)) (ds.any fun z => PyData.eqv z d))) H
theorem min_le {A : Around} {d : PyData} {n : Nat} (hu : A.units + 66 < cLine) (sd : SeqAt.shaped d = true) : A.units + 1 + min n d.depth < cLine := by
  have h : (d.canLay0 && decide (d.depth ≤ 64)) = true := sd
  rw [Bool.and_eq_true] at h
  have h2 := of_decide_eq_true h.2
  have := Nat.min_le_right n d.depth
  omega
theorem op_inS2 {X : Cx} {neg : Bool} (hu : X.A.units + 66 < cLine) : OpR X (compareOp (cond neg .NotIn .In)) (rInS2 X.K neg) := by
  intro pins s σ H x y v u Q I rx ry h
  obtain ⟨d, ds, hd, he, sd, se, q⟩ := h
  obtain ⟨as, r1⟩ := Dp.reads I d x v hd rx
  have cl := SeqAt.canLay_of_shaped sd
  rcases he with he | he
  · obtain ⟨bs, r2⟩ := Dp.reads I (.list ds) y u he ry
    cases neg with
    | false => exact SeqAt.in_list_reads r2 r1 se cl (min_le hu sd) ⟨.bl _, H, I, rfl, q⟩
    | true => exact SeqAt.notIn_list_reads r2 r1 se cl (min_le hu sd) ⟨.bl _, H, I, rfl, q⟩
  · obtain ⟨bs, r2⟩ := Dp.reads I (.tuple ds) y u he ry
    cases neg with
    | false => exact SeqAt.in_tuple_reads r2 r1 se cl (min_le hu sd) ⟨.bl _, H, I, rfl, q⟩
    | true => exact SeqAt.notIn_tuple_reads r2 r1 se cl (min_le hu sd) ⟨.bl _, H, I, rfl, q⟩
theorem items_ok {T : Tb} {ρ : List Addr} {H : Hp} {D : DH} (h : HR T ρ D H) {d : DV} {v : V} {xs : List DV} (r : VR T ρ H d v) (e : items D d = some xs) : ∃ a vs, v = .ref a ∧ VRs T ρ H xs vs ∧ (SqL T.K H a vs ∨ SqT T.K H a vs) := by
  cases d with
  | tup ys =>
    cases e
    obtain ⟨a, vs, q, s, rv⟩ := r
    exact ⟨a, vs, q, rv, .inr s⟩
  | loc l =>
    cases g : D.get l with
    | none => simp only [items, g] at e; cases e
    | some o =>
      simp only [items, g] at e
      obtain ⟨a, q, _, j⟩ := h.at r g
      cases o with
      | lst fz ys =>
        cases e
        obtain ⟨vs, rv, s⟩ := j.seqL
        exact ⟨a, vs, q, rv, .inl s⟩
      | _ => cases e
  | _ => cases e
theorem dIn_of {T : Tb} {neg : Bool} : ∀ x y H Q, r2 T (dIn neg) x y H Q → rInS2 T.K neg x y H Q := fun x y H Q ⟨ρ, D, a, b, h, ra, rb, p⟩ => by
  unfold dIn at p
  cases e : items D b with
  | none => rw [e] at p; exact p.elim
  | some ys =>
    rw [e] at p
    obtain ⟨c1, p⟩ := cond_ok p
    obtain ⟨c2, p⟩ := cond_ok p
    obtain ⟨t, vs, q, rv, s⟩ := items_ok h rb e
    subst q
    obtain ⟨a1, a2, a3⟩ := py_ok c1 ra
    obtain ⟨b1, b2, b3⟩ := pys_ok (n := 60) c2 rv
    refine ⟨py a, pys ys, a1, ?_, ?_, b2, ?_⟩
    · rcases s with s | s
      · exact .inl (.lst s b1)
      · exact .inr (.tup s b1)
    · show ((py a).canLay0 && decide ((py a).depth ≤ 64)) = true
      rw [a2, decide_eq_true (show (py a).depth ≤ 64 by omega)]; rfl
    · rw [← anyEq_ok c1 c2]
      exact pE_ok h (d := .bl _) rfl p
theorem op_inM {T : Tb} {k : Nat} {X : Cx} (c : Cn T k X) : OpR X (compareOp .In) (r2 T (dIn false)) := OpRw (op_inS2 (neg := false) c.units) fun x y H Q q => by rw [c.K]; exact dIn_of x y H Q q
theorem op_notinM {T : Tb} {k : Nat} {X : Cx} (c : Cn T k X) : OpR X (compareOp .NotIn) (r2 T (dIn true)) := OpRw (op_inS2 (neg := true) c.units) fun x y H Q q => by rw [c.K]; exact dIn_of x y H Q q

/-! ### xs[i], xs[i:j] -/
def lat : List DV → Nat → Option DV
  | [], _ => none
  | d :: _, 0 => some d
  | _ :: r, i + 1 => lat r i
theorem lat_eq : ∀ (xs : List DV) (i : Nat), lat xs i = xs[i]?
  | [], _ => rfl
  | d :: _, 0 => rfl
  | _ :: r, i + 1 => by
    show lat r i = _
    rw [lat_eq r i]; rfl
def datI (xs : List DV) : Int → Option DV
  | .ofNat n => lat xs n
  | .negSucc n => cond (Nat.blt n xs.length) (lat xs (Nat.sub (Nat.sub xs.length n) 1)) none
theorem datI_ok {T : Tb} {ρ : List Addr} {H : Hp} {xs : List DV} {vs : List V} {i : Int} {d : DV} (r : VRs T ρ H xs vs) (e : datI xs i = some d) : ∃ v, atI vs i = some v ∧ VR T ρ H d v := by
  have hl := r.len
  cases i with
  | ofNat n =>
    have e : lat xs n = some d := e
    rw [lat_eq] at e
    have hn : n < xs.length := (List.getElem?_eq_some_iff.mp e).1
    obtain ⟨v, h1, h2⟩ := r.at e
    refine ⟨v, ?_, h2⟩
    unfold atI ixN
    rw [if_pos (show (0 : Int) ≤ Int.ofNat n from Int.natCast_nonneg n), if_pos (show Int.ofNat n < ((vs.length : Nat) : Int) by show ((n : Nat) : Int) < _; omega)]
    exact h1
  | negSucc n =>
    have e : cond (Nat.blt n xs.length) (lat xs (Nat.sub (Nat.sub xs.length n) 1)) none = some d := e
    cases g : Nat.blt n xs.length with
    | false => rw [g] at e; cases e
    | true =>
      rw [g] at e
      have hn : n < xs.length := Nat.le_of_ble_eq_true g
      have e : lat xs (xs.length - n - 1) = some d := e
      rw [lat_eq] at e
      obtain ⟨v, h1, h2⟩ := r.at e
      refine ⟨v, ?_, h2⟩
      unfold atI ixN
      rw [if_neg (show ¬ (0 : Int) ≤ Int.negSucc n by omega), if_pos (show -((vs.length : Nat) : Int) ≤ Int.negSucc n by omega)]
      show vs[(Int.negSucc n + ((vs.length : Nat) : Int)).toNat]? = some v
      rw [show (Int.negSucc n + ((vs.length : Nat) : Int)).toNat = xs.length - n - 1 by omega]
      exact h1
def dIx (x y : DV) (D : DH) : R DV := match y with
  | .int i => (match items D x with
    | some xs => (match datI xs i with
      | some d => .ok d D
      | none => .bad)
    | none => .bad)
  | _ => .bad
theorem dIx_of {T : Tb} : ∀ x y H Q, r2 T dIx x y H Q → rIx T.K x y H Q := fun x y H Q ⟨ρ, D, a, b, h, ra, rb, p⟩ => by
  cases b with
  | int i =>
    have p : pE T ρ H (match items D a with
      | some xs => (match datI xs i with
        | some d => .ok d D
        | none => .bad)
      | none => .bad) Q := p
    cases e : items D a with
    | none => rw [e] at p; exact p.elim
    | some xs =>
      rw [e] at p
      dsimp only at p
      cases g : datI xs i with
      | none => rw [g] at p; exact p.elim
      | some d =>
        rw [g] at p
        obtain ⟨t, vs, q, rv, s⟩ := items_ok h ra e
        obtain ⟨v, h1, h2⟩ := datI_ok rv g
        rcases s with s | s
        · exact .inl ⟨t, vs, i, v, q, rb, s, h1, pE_ok h h2 p⟩
        · exact .inr (.inl ⟨t, vs, i, v, q, rb, s, h1, pE_ok h h2 p⟩)
  | _ => exact p.elim
theorem ex_ix {T : Tb} {k : Nat} {X : Cx} {a b : Expr} {ma mb : ME} {pos : Pos} (c : Cn T k X) (ha : PE X a (rE T ma)) (hb : PE X b (rE T mb)) (hs : PlainIx b := by exact fun _ _ => rfl) : PE X (.Subscript a b pos) (rE T (mBin dIx ma mb)) :=
  PEw (pe_ix ix_seq ha hb hs) fun σ H Q q => by rw [c.K]; exact tOp_of dIx_of q

/-- a slice's part -/
def mPart (m : Option ME) : DL → DH → R (Option Int) := fun σ D => match m with
  | none => .ok none D
  | some a => (match a σ D with
    | .ok (.int i) D1 => .ok (some i) D1
    | _ => .bad)
def sIxD (n d : Nat) : Option Int → Nat
  | none => d
  | some (.ofNat k) => cond (Nat.ble k n) k n
  | some (.negSucc k) => Nat.sub n (k + 1)
theorem sIxD_eq (n d : Nat) (o : Option Int) : sIxD n d o = HT.sIx n d o := by
  cases o with
  | none => rfl
  | some i =>
    cases i with
    | ofNat k =>
      show cond (Nat.ble k n) k n = HT.sIx n d (some (k : Int))
      rw [HT.sIx_nat]
      cases e : Nat.ble k n with
      | true => have := Nat.le_of_ble_eq_true e; show k = _; omega
      | false =>
        have : ¬ k ≤ n := fun q => by rw [Nat.ble_eq_true_of_le q] at e; cases e
        show n = _; omega
    | negSucc k =>
      show Nat.sub n (k + 1) = (if Int.negSucc k < 0 then (Int.negSucc k + (n : Int)).toNat else min (Int.negSucc k).toNat n)
      rw [if_pos (by omega)]
      show n - (k + 1) = _
      omega
def dcut (xs : List DV) (lo hi : Option Int) : List DV := (xs.drop (sIxD xs.length 0 lo)).take (Nat.sub (sIxD xs.length xs.length hi) (sIxD xs.length 0 lo))
theorem dcut_ok {T : Tb} {ρ : List Addr} {H : Hp} {xs : List DV} {vs : List V} (r : VRs T ρ H xs vs) (lo hi : Option Int) : VRs T ρ H (dcut xs lo hi) (cutV vs lo hi) := by
  unfold dcut cutV
  rw [sIxD_eq, sIxD_eq, ← r.len]
  exact (r.drop _).take _
def dSlice (x : DV) (lo hi : Option Int) (D : DH) : R DV := match x with
  | .tup xs => .ok (.tup (dcut xs lo hi)) D
  | .loc l => (match D.get l with
    | some (.lst _ xs) => D.new (.lst false (dcut xs lo hi))
    | _ => .bad)
  | _ => .bad
def mSlice (a : ME) (lo hi : Option ME) : ME := fun σ D => match a σ D with
  | .ok x D1 => (match mPart lo σ D1 with
    | .ok l D2 => (match mPart hi σ D2 with
      | .ok h D3 => dSlice x l h D3
      | .bad => .bad)
    | .bad => .bad)
  | .bad => .bad
def pO (T : Tb) (ρ : List Addr) (H : Hp) (r : R (Option Int)) (Q : Option Int → Hp → Prop) : Prop := match r with
  | .ok o D => ∀ ρ' H', Up ρ H ρ' H' → HR T ρ' D H' → Q o H'
  | .bad => False
def rO (T : Tb) (m : DL → DH → R (Option Int)) : TO := fun σ H Q => ∃ ρ σd D, SR T ρ H σd σ ∧ HR T ρ D H ∧ pO T ρ H (m σd D) Q
theorem POw {X : Cx} {e : Option Expr} {t t' : TO} (h : PO X e t) (w : ∀ σ H Q, t' σ H Q → t σ H Q) : PO X e t' := ⟨fun pins s σ H Q I q => h.run pins s σ H Q I (w σ H Q q)⟩
theorem ox_none {T : Tb} {X : Cx} : PO X none (rO T (mPart none)) := POw po_none fun σ H Q ⟨ρ, σd, D, sr, hr, p⟩ => p ρ H (Up.refl _ _) hr
theorem ox_some {T : Tb} {X : Cx} {e : Expr} {m : ME} (h : PE X e (rE T m)) : PO X (some e) (rO T (mPart (some m))) := by
  refine POw (po_some h) fun σ H Q ⟨ρ, σd, D, sr, hr, p⟩ => ⟨ρ, σd, D, sr, hr, ?_⟩
  have p : pO T ρ H (match m σd D with
    | .ok (.int i) D1 => .ok (some i) D1
    | _ => .bad) Q := p
  cases g : m σd D with
  | bad => rw [g] at p; exact p.elim
  | ok x D1 =>
    rw [g] at p
    cases x with
    | int i => exact fun ρ1 H1 v u1 h1 r1 => ⟨i, r1, p ρ1 H1 u1 h1⟩
    | _ => exact p.elim
theorem ex_slice {T : Tb} {k : Nat} {X : Cx} {a : Expr} {lo hi : Option Expr} {ma : ME} {ml mh : Option ME} {pos p2 : Pos} (c : Cn T k X) (ha : PE X a (rE T ma)) (hl : PO X lo (rO T (mPart ml))) (hh : PO X hi (rO T (mPart mh))) :
    PE X (.Subscript a (.Slice lo hi none p2) pos) (rE T (mSlice ma ml mh)) := by
  refine PEw (pe_slice ((sl_tupA (X := X)).or sl_list) ha hl hh) fun σ H Q ⟨ρ, σd, D, sr, hr, p⟩ => ⟨ρ, σd, D, sr, hr, ?_⟩
  unfold mSlice at p
  cases g1 : ma σd D with
  | bad => rw [g1] at p; exact p.elim
  | ok x D1 =>
    rw [g1] at p
    intro ρ1 H1 v u1 h1 r1
    refine ⟨ρ1, σd, D1, sr.up u1, h1, ?_⟩
    dsimp only at p
    cases g2 : mPart ml σd D1 with
    | bad => rw [g2] at p; exact p.elim
    | ok l D2 =>
      rw [g2] at p
      intro ρ2 H2 u2 h2
      refine ⟨ρ2, σd, D2, sr.up (u1.trans u2), h2, ?_⟩
      dsimp only at p
      cases g3 : mPart mh σd D2 with
      | bad => rw [g3] at p; exact p.elim
      | ok h D3 =>
        rw [g3] at p
        intro ρ3 H3 u3 h3
        have r3 := r1.up (u2.trans u3)
        have p : pE T ρ3 H3 (dSlice x l h D3) Q := p.up (u1.trans (u2.trans u3))
        cases x with
        | tup xs =>
          obtain ⟨a, vs, q, s, rv⟩ := r3
          refine .inl ⟨a, vs, q, by rw [c.K]; exact s, fun hw => ?_, fun hw t ht => pE_tup h3 (dcut_ok rv l h) p ht⟩
          refine pE_ok h3 (d := .tup (dcut xs l h)) ⟨a, vs, rfl, s, ?_⟩ p
          have z := dcut_ok rv l h
          have e : cutV vs l h = vs := by
            unfold cutV
            rw [hw.1, hw.2, List.drop_zero, Nat.sub_zero, List.take_length]
          rw [e] at z
          exact z
        | loc n =>
          have p : pE T ρ3 H3 (match D3.get n with
            | some (.lst _ xs) => D3.new (.lst false (dcut xs l h))
            | _ => .bad) Q := p
          cases g4 : D3.get n with
          | none => rw [g4] at p; exact p.elim
          | some o =>
            rw [g4] at p
            obtain ⟨a, q, _, j⟩ := h3.at r3 g4
            cases o with
            | lst fz xs =>
              obtain ⟨vs, rv, s⟩ := j.seqL
              exact .inr ⟨a, vs, q, by rw [c.K]; exact s, fun t ht => pE_new h3 p ht ⟨_, (dcut_ok rv l h).up (up_add ht), upd_same⟩⟩
            | _ => exact p.elim
        | _ => exact p.elim
end FH

namespace FH
open PySem PySem.Spec PyProof.Rows L2

/-! ### statements -/
def sNil : MS := fun σ D => .nx σ D
def sSeq (a b : MS) : MS := fun σ D => match a σ D with
  | .nx σ1 D1 => b σ1 D1
  | r => r
def sSet (i : Nat) (m : ME) : MS := fun σ D => match m σ D with
  | .ok d D1 => .nx (σ.set i (some d)) D1
  | .bad => .bad
def sRet (m : ME) : MS := fun σ D => match m σ D with
  | .ok d D1 => .rt d D1
  | .bad => .bad
def sRetN : MS := fun _ D => .rt .non D
def sExpr (m : ME) : MS := fun σ D => match m σ D with
  | .ok _ D1 => .nx σ D1
  | .bad => .bad
def sIf (t : MT) (a b : MS) : MS := fun σ D => match t σ D with
  | .ok true D1 => a σ D1
  | .ok false D1 => b σ D1
  | .bad => .bad
def sNever : MS := fun _ _ => .bad
def sBreak : MS := fun σ D => .bk σ D
def sCont : MS := fun σ D => .ct σ D
section
variable {T : Tb} {k : Nat} {X : Cx} {a b c e : Expr} {ma mb : ME} {pos pos' : Pos} {st : Stmt} {rest : List Stmt} {s1 s2 : MS}
theorem sx_nil : PSs X [] (rS T sNil) := PSsw pss_nil fun E σ H ⟨ρ, σd, D, sr, hr, p⟩ => p ρ H σ (Up.refl _ _) hr sr
theorem sx_cons (h1 : PS X st (rS T s1)) (h2 : PSs X rest (rS T s2)) : PSs X (st :: rest) (rS T (sSeq s1 s2)) := by
  refine PSsw (pss_cons h1 h2) fun E σ H ⟨ρ, σd, D, sr, hr, p⟩ => ⟨ρ, σd, D, sr, hr, ?_⟩
  unfold sSeq at p
  cases g : s1 σd D with
  | nx σ1 D1 =>
    rw [g] at p
    exact fun ρ1 H1 σ' u1 h1 r1 => ⟨ρ1, σ1, D1, r1, h1, pS.up u1 p⟩
  | rt d D1 => rw [g] at p; exact p
  | bk σ1 D1 => rw [g] at p; exact p
  | ct σ1 D1 => rw [g] at p; exact p
  | bad => rw [g] at p; exact p.elim
theorem sx_one (h1 : PS X st (rS T s1)) : PSs X [st] (rS T s1) := pss_one h1
theorem sx_pass : PS X (.Pass pos) (rS T sNil) := PSw ps_pass fun E σ H ⟨ρ, σd, D, sr, hr, p⟩ => p ρ H σ (Up.refl _ _) hr sr
theorem sx_break : PS X (.Break pos) (rS T sBreak) := PSw ps_break fun E σ H ⟨ρ, σd, D, sr, hr, p⟩ => p ρ H σ (Up.refl _ _) hr sr
theorem sx_cont : PS X (.Continue pos) (rS T sCont) := PSw ps_continue fun E σ H ⟨ρ, σd, D, sr, hr, p⟩ => p ρ H σ (Up.refl _ _) hr sr
theorem sx_never : PS X st (rS T sNever) := PSw ps_never fun E σ H ⟨ρ, σd, D, sr, hr, p⟩ => p
theorem rE_then {m : ME} {f : DV → DH → RS} {E : Ends} {Q : VK} {ρ : List Addr} {σd : DL} {D : DH} {σ : L2.St} {H : Hp} (sr : SR T ρ H σd σ) (hr : HR T ρ D H) (p : pS T ρ H (match m σd D with
    | .ok d D1 => f d D1
    | .bad => .bad) E) (h : ∀ d D1, pS T ρ H (f d D1) E → ∀ ρ' H' v, Up ρ H ρ' H' → HR T ρ' D1 H' → VR T ρ' H' d v → Q v H') : rE T m σ H Q := by
  refine ⟨ρ, σd, D, sr, hr, ?_⟩
  cases g : m σd D with
  | bad => rw [g] at p; exact p.elim
  | ok d D1 => rw [g] at p; exact h d D1 p
theorem sx_ret {m : ME} (h : PE X e (rE T m)) : PS X (.Return (some e) pos) (rS T (sRet m)) :=
  PSw (ps_ret h) fun E σ H ⟨ρ, σd, D, sr, hr, p⟩ => rE_then (f := fun d D1 => .rt d D1) sr hr p fun d D1 p => p
theorem sx_retN : PS X (.Return none pos) (rS T sRetN) := PSw ps_retN fun E σ H ⟨ρ, σd, D, sr, hr, p⟩ => p ρ H .non (Up.refl _ _) hr rfl
theorem sx_expr {m : ME} (h : PE X e (rE T m)) (hs : swapsWith e none pos.line X.env = pure false := by rfl) : PS X (.Expr e pos) (rS T (sExpr m)) :=
  PSw (ps_expr h hs) fun E σ H ⟨ρ, σd, D, sr, hr, p⟩ => rE_then (f := fun _ D1 => .nx σd D1) sr hr p fun d D1 p ρ' H' v u h r => p ρ' H' σ u h (sr.up u)
theorem sx_doc {x : Str} {j pos pos'} : PS X (.Expr (.Constant (.str x) j pos) pos') (rS T sNil) := PSw ps_doc fun E σ H ⟨ρ, σd, D, sr, hr, p⟩ => p ρ H σ (Up.refl _ _) hr sr
theorem sx_set {m : ME} (c : Cn T k X) (i : Nat) {x : Str} {pos' : Pos} (h : PE X e (rE T m)) (hi : X.N[i]? = some x := by rfl) (hx : Loc X.env.scope x := by first | exact Or.inl rfl | exact Or.inr rfl)
    (hs : swapsWith e (some (.Name x pos')) pos.line X.env = pure false := by rfl) (hf : X.fn x = true ∨ X.env.scope.names.lookup x = some .local := by first | exact .inl rfl | exact .inr rfl | assumption) : PS X (.Assign [.Name x pos'] e pos) (rS T (sSet i m)) :=
  PSw (ps_set c.nd hi hx h hs hf) fun E σ H ⟨ρ, σd, D, sr, hr, p⟩ => rE_then (f := fun d D1 => .nx (σd.set i (some d)) D1) sr hr p fun d D1 p ρ' H' v u h r => p ρ' H' _ u h ((sr.up u).set (d := some d) (o := some v) (OR.mk r) i)
theorem sx_if {t : MT} {as bs : List Stmt} (hc : PT X c (rT T t)) (ha : PSs X as (rS T s1)) (hb : PSs X bs (rS T s2)) : PS X (.If c as bs pos) (rS T (sIf t s1 s2)) := by
  refine PSw (ps_if hc ha hb) fun E σ H ⟨ρ, σd, D, sr, hr, p⟩ => ⟨ρ, σd, D, sr, hr, ?_⟩
  unfold sIf at p
  cases g : t σd D with
  | bad => rw [g] at p; exact p.elim
  | ok x D1 =>
    rw [g] at p
    cases x with
    | true => exact fun ρ1 H1 u1 h1 => iteT ⟨ρ1, σd, D1, sr.up u1, h1, pS.up u1 p⟩
    | false => exact fun ρ1 H1 u1 h1 => iteF ⟨ρ1, σd, D1, sr.up u1, h1, pS.up u1 p⟩
end

/-! ### targets -/
abbrev MG := DV → DL → DH → R DL
abbrev MGs := List DV → DL → DH → R DL
/-- all slots but some are as they were -/
def Agree (is : List Nat) (σ σ' : L2.St) : Prop := σ'.length = σ.length ∧ ∀ i, i ∉ is → σ'[i]? = σ[i]?
theorem Agree.refl (is : List Nat) (σ : L2.St) : Agree is σ σ := ⟨rfl, fun _ _ => rfl⟩
theorem Agree.trans {is js : List Nat} {σ σ1 σ2 : L2.St} (a : Agree is σ σ1) (b : Agree js σ1 σ2) : Agree (is ++ js) σ σ2 :=
  ⟨b.1.trans a.1, fun i h => by
    rw [List.mem_append, not_or] at h
    exact (b.2 i h.2).trans (a.2 i h.1)⟩
def pG (T : Tb) (is : List Nat) (ρ : List Addr) (σ : L2.St) (H : Hp) (r : R DL) (Q : L2.St → Hp → Prop) : Prop := match r with
  | .ok σd' D => ∀ ρ' H' σ', Up ρ H ρ' H' → HR T ρ' D H' → SR T ρ' H' σd' σ' → Agree is σ σ' → Q σ' H'
  | .bad => False
def rG (T : Tb) (is : List Nat) (m : MG) : TG := fun v σ H Q => ∃ ρ σd D d, SR T ρ H σd σ ∧ HR T ρ D H ∧ VR T ρ H d v ∧ pG T is ρ σ H (m d σd D) Q
def rGs (T : Tb) (is : List Nat) (m : MGs) : TGs := fun vs σ H Q => ∃ ρ σd D ds, SR T ρ H σd σ ∧ HR T ρ D H ∧ VRs T ρ H ds vs ∧ pG T is ρ σ H (m ds σd D) Q
def gSet (i : Nat) : MG := fun d σ D => .ok (σ.set i (some d)) D
def gsNil : MGs := fun ds σ D => match ds with
  | [] => .ok σ D
  | _ => .bad
def gsCons (g : MG) (r : MGs) : MGs := fun ds σ D => match ds with
  | d :: ds => (match g d σ D with
    | .ok σ1 D1 => r ds σ1 D1
    | .bad => .bad)
  | [] => .bad
def gTupM (n : Nat) (g : MGs) : MG := fun d σ D => match d with
  | .tup xs => cond (Nat.beq xs.length n) (g xs σ D) .bad
  | _ => .bad
section
variable {T : Tb} {k : Nat} {X : Cx} {e : Expr} {es : List Expr} {is js : List Nat} {pos : Pos}
theorem PGw {t t' : TG} (h : PG X e t) (w : ∀ v σ H Q, t' v σ H Q → t v σ H Q) : PG X e t' := ⟨fun pins s σ H v u Q I r q => h.run pins s σ H v u Q I r (w _ _ _ _ q)⟩
theorem PGsw {t t' : TGs} (h : PGs X es t) (w : ∀ v σ H Q, t' v σ H Q → t v σ H Q) : PGs X es t' := ⟨fun pins s σ H v u Q I r q => h.run pins s σ H v u Q I r (w _ _ _ _ q)⟩
theorem gx_name (c : Cn T k X) (i : Nat) {x : Str} (hi : X.N[i]? = some x := by rfl) (hx : Loc X.env.scope x := by first | exact Or.inl rfl | exact Or.inr rfl)
    (hf : X.fn x = true ∨ X.env.scope.names.lookup x = some .local := by first | exact .inl rfl | exact .inr rfl | assumption) : PG X (.Name x pos) (rG T [i] (gSet i)) :=
  PGw (pg_name c.nd hi hx hf) fun v σ H Q ⟨ρ, σd, D, d, sr, hr, r, p⟩ => p ρ H _ (Up.refl _ _) hr (sr.set (d := some d) (o := some v) (OR.mk r) i) ⟨List.length_set, fun j hj => by
    rw [List.getElem?_set_ne]
    rintro rfl
    exact hj (List.mem_singleton.mpr rfl)⟩
theorem gsx_nil : PGs X [] (rGs T [] gsNil) := PGsw pgs_nil fun vs σ H Q ⟨ρ, σd, D, ds, sr, hr, r, p⟩ => by
  cases ds with
  | nil => exact ⟨r, p ρ H σ (Up.refl _ _) hr sr (Agree.refl _ _)⟩
  | cons d ds => exact p.elim
theorem gsx_cons {g : MG} {gs : MGs} (h1 : PG X e (rG T is g)) (h2 : PGs X es (rGs T js gs)) (hs : (assignEach (e :: es) X.env).map (·.2) = assign e X.env :: (assignEach es X.env).map (·.2) := by rfl) : PGs X (e :: es) (rGs T (is ++ js) (gsCons g gs)) := by
  refine PGsw (pgs_cons h1 h2 hs) fun vs σ H Q ⟨ρ, σd, D, ds, sr, hr, r, p⟩ => ?_
  cases ds with
  | nil => exact p.elim
  | cons d ds =>
    obtain ⟨v, vr, q, r1, r2⟩ := r
    refine ⟨v, vr, q, ρ, σd, D, d, sr, hr, r1, ?_⟩
    have p : pG T (is ++ js) ρ σ H (match g d σd D with
      | .ok σ1 D1 => gs ds σ1 D1
      | .bad => .bad) Q := p
    cases e1 : g d σd D with
    | bad => rw [e1] at p; exact p.elim
    | ok σ1 D1 =>
      rw [e1] at p
      intro ρ1 H1 σ' u1 h1 s1 a1
      refine ⟨ρ1, σ1, D1, ds, s1, h1, r2.up u1, ?_⟩
      dsimp only at p
      cases e2 : gs ds σ1 D1 with
      | bad => rw [e2] at p; exact p.elim
      | ok σ2 D2 =>
        rw [e2] at p
        exact fun ρ2 H2 σ'' u2 h2 s2 a2 => p ρ2 H2 σ'' (u1.trans u2) h2 s2 (a1.trans a2)
theorem gx_tup {n : Nat} {gs : MGs} {kk : Nat} (c : Cn T k X) (h : PGs X es (rGs T is gs)) (hn : (assignEach es X.env).length = n := by rfl) (hst : (assignEach es X.env).findIdx? (·.1) = none := by rfl) : PG X (.Tuple es kk pos) (rG T is (gTupM n gs)) := by
  refine PGw (pg_tup c.calm h hn hst) fun v σ H Q ⟨ρ, σd, D, d, sr, hr, r, p⟩ => ?_
  cases d with
  | tup xs =>
    obtain ⟨a, vs, q, s, rv⟩ := r
    have p : pG T is ρ σ H (cond (Nat.beq xs.length n) (gs xs σd D) .bad) Q := p
    cases e1 : Nat.beq xs.length n with
    | false => rw [e1] at p; exact p.elim
    | true =>
      rw [e1] at p
      exact ⟨a, vs, q, by rw [c.K]; exact s, by rw [rv.len]; exact Nat.eq_of_beq_eq_true e1, ρ, σd, D, xs, sr, hr, rv, p⟩
  | _ => exact p.elim
/-- target = value -/
def sAsg (g : MG) (m : ME) : MS := fun σ D => match m σ D with
  | .ok d D1 => (match g d σ D1 with
    | .ok σ1 D2 => .nx σ1 D2
    | .bad => .bad)
  | .bad => .bad
theorem sx_asg {tg : Expr} {g : MG} {m : ME} (he : PE X e (rE T m)) (hg : PG X tg (rG T is g)) (hs : swapsWithSole [tg] e pos.line X.env = pure false := by rfl) (hw : swappedStores [tg] e X.env = pure none := by rfl)
    (h1 : (assignEach [tg] X.env).map (·.2) = [assign tg X.env] := by rfl) : PS X (.Assign [tg] e pos) (rS T (sAsg g m)) := by
  refine PSw (ps_asg he hg hs hw h1) fun E σ H ⟨ρ, σd, D, sr, hr, p⟩ => ⟨ρ, σd, D, sr, hr, ?_⟩
  unfold sAsg at p
  cases e1 : m σd D with
  | bad => rw [e1] at p; exact p.elim
  | ok d D1 =>
    rw [e1] at p
    intro ρ1 H1 v u1 h1 r1
    refine ⟨ρ1, σd, D1, d, sr.up u1, h1, r1, ?_⟩
    dsimp only at p
    cases e2 : g d σd D1 with
    | bad => rw [e2] at p; exact p.elim
    | ok σ1 D2 =>
      rw [e2] at p
      exact fun ρ2 H2 σ' u2 h2 s2 _ => p ρ2 H2 σ' (u1.trans u2) h2 s2
end

/-! ### what is walked -/
structure Src where
  item : DH → Nat → Option (Option DV)
  len : DH → Nat
def Src.lst (l : Nat) : Src := ⟨fun D i => (match D.get l with
    | some (.lst _ xs) => some (lat xs i)
    | _ => none), fun D => (match D.get l with
    | some (.lst _ xs) => xs.length
    | _ => 0)⟩
def Src.vals (xs : List DV) : Src := ⟨fun _ i => some (lat xs i), fun _ => xs.length⟩
abbrev MI := DL → DH → R Src
def ItD (T : Tb) (ρ0 : List Addr) (H0 : Hp) (src : Src) (J : It) : Prop := ∀ ρ D H, Up ρ0 H0 ρ H → HR T ρ D H → ∀ i,
  match src.item D i with
  | none => True
  | some none => J.stop i H
  | some (some d) => J.go i H ∧ ∀ x H', J.yld i H x H' → Up ρ H ρ H' ∧ HR T ρ D H' ∧ VR T ρ H' d x
def pI (T : Tb) (ρ : List Addr) (H : Hp) (r : R Src) (Q : It → Hp → Prop) : Prop := match r with
  | .ok src D => ∀ ρ' H' J, Up ρ H ρ' H' → HR T ρ' D H' → ItD T ρ' H' src J → Q J H'
  | .bad => False
def rI (T : Tb) (m : MI) : TI := fun σ H Q => ∃ ρ σd D, SR T ρ H σd σ ∧ HR T ρ D H ∧ pI T ρ H (m σd D) Q
def loopS (body : MS) (g : MG) (src : Src) : Nat → Nat → DL → DH → RS
  | 0, _, _, _ => .bad
  | f + 1, i, σ, D => (match src.item D i with
    | none => .bad
    | some none => .nx σ D
    | some (some d) => (match g d σ D with
      | .bad => .bad
      | .ok σ1 D1 => (match body σ1 D1 with
        | .nx σ2 D2 => loopS body g src f (Nat.succ i) σ2 D2
        | .ct σ2 D2 => loopS body g src f (Nat.succ i) σ2 D2
        | .bk σ2 D2 => .nx σ2 D2
        | .rt d D2 => .rt d D2
        | .bad => .bad)))
def sFor (g : MG) (mi : MI) (body : MS) : MS := fun σ D => match mi σ D with
  | .ok src D1 => loopS body g src (Nat.succ (src.len D1)) 0 σ D1
  | .bad => .bad
section
variable {T : Tb} {k : Nat} {X : Cx} {tg iter e : Expr} {is : List Nat} {pos : Pos} {body : List Stmt} {mi : MI} {g : MG} {sb : MS}
theorem PIw {t t' : TI} (h : PI X tg iter t) (w : ∀ σ H Q, t' σ H Q → t σ H Q) : PI X tg iter t' := ⟨fun pins s σ H Q I q => h.run pins s σ H Q I (w _ _ _ q)⟩
theorem loop_read {E : Ends} {src : Src} {J : It} {ρ0 : List Addr} {H0 : Hp} (it : ItD T ρ0 H0 src J) {f : Nat} {σ : L2.St} {σd : DL} {D : DH} (sr : SR T ρ0 H0 σd σ) (hr : HR T ρ0 D H0) (p : pS T ρ0 H0 (loopS sb g src f 0 σd D) E) :
    ∃ W : Nat → Nat → L2.St → Hp → Prop, (∃ m, W 0 m σ H0) ∧ ∀ i m σ H, W i m σ H →
      (J.stop i H ∧ E.nx σ H) ∨ (J.go i H ∧ ∃ N : L2.St → Hp → Prop, (∀ σ' H', N σ' H' → ∃ m', m' < m ∧ W (i + 1) m' σ' H') ∧ ∀ x H', J.yld i H x H' → rG T is g x σ H' fun σ2 H2 => rS T sb { E with nx := N, ct := N, bk := E.nx } σ2 H2) := by
  refine ⟨fun i m σ H => ∃ ρ σd D, Up ρ0 H0 ρ H ∧ SR T ρ H σd σ ∧ HR T ρ D H ∧ pS T ρ H (loopS sb g src m i σd D) E, ⟨f, ρ0, σd, D, Up.refl _ _, sr, hr, p⟩, ?_⟩
  rintro i m σ H ⟨ρ, σd, D, u, sr, hr, p⟩
  cases m with
  | zero => exact p.elim
  | succ m =>
    have p : pS T ρ H (match src.item D i with
      | none => .bad
      | some none => .nx σd D
      | some (some d) => (match g d σd D with
        | .bad => .bad
        | .ok σ1 D1 => (match sb σ1 D1 with
          | .nx σ2 D2 => loopS sb g src m (Nat.succ i) σ2 D2
          | .ct σ2 D2 => loopS sb g src m (Nat.succ i) σ2 D2
          | .bk σ2 D2 => .nx σ2 D2
          | .rt d D2 => .rt d D2
          | .bad => .bad))) E := p
    have z := it ρ D H u hr i
    cases e1 : src.item D i with
    | none => rw [e1] at p; exact p.elim
    | some o =>
      rw [e1] at p z
      cases o with
      | none => exact .inl ⟨z, p ρ H σ (Up.refl _ _) hr sr⟩
      | some d =>
        obtain ⟨go, yl⟩ := z
        refine .inr ⟨go, fun σ' H' => ∃ ρ σd D, Up ρ0 H0 ρ H' ∧ SR T ρ H' σd σ' ∧ HR T ρ D H' ∧ pS T ρ H' (loopS sb g src m (i + 1) σd D) E, fun σ' H' w => ⟨m, Nat.lt_succ_self m, w⟩, fun x H' y => ?_⟩
        obtain ⟨u1, h1, r1⟩ := yl x H' y
        refine ⟨ρ, σd, D, d, sr.up u1, h1, r1, ?_⟩
        dsimp only at p
        cases e2 : g d σd D with
        | bad => rw [e2] at p; exact p.elim
        | ok σ1 D1 =>
          rw [e2] at p
          intro ρ2 H2 σ2 u2 h2 s2 _
          refine ⟨ρ2, σ1, D1, s2, h2, ?_⟩
          dsimp only at p
          cases e3 : sb σ1 D1 with
          | bad => rw [e3] at p; exact p.elim
          | nx σ3 D3 =>
            rw [e3] at p
            exact fun ρ3 H3 σ3 u3 h3 s3 => ⟨ρ3, _, D3, u.trans (u1.trans (u2.trans u3)), s3, h3, pS.up (u1.trans (u2.trans u3)) p⟩
          | ct σ3 D3 =>
            rw [e3] at p
            exact fun ρ3 H3 σ3 u3 h3 s3 => ⟨ρ3, _, D3, u.trans (u1.trans (u2.trans u3)), s3, h3, pS.up (u1.trans (u2.trans u3)) p⟩
          | bk σ3 D3 =>
            rw [e3] at p
            exact fun ρ3 H3 σ3 u3 h3 s3 => p ρ3 H3 σ3 (u1.trans (u2.trans u3)) h3 s3
          | rt d3 D3 =>
            rw [e3] at p
            exact fun ρ3 H3 v3 u3 h3 r3 => p ρ3 H3 v3 (u1.trans (u2.trans u3)) h3 r3
theorem sx_for (c : Cn T k X) (hi : PI X tg iter (rI T mi)) (hg : PG X tg (rG T is g)) (hb : PSs X body (rS T sb)) (hs : ∀ x, foldedSetIterable iter X.env x = pure x := by intro _; rfl) : PS X (.For tg iter body [] pos) (rS T (sFor g mi sb)) := by
  refine PSw (ps_for c.pass c.calm hi hg hb hs) fun E σ H ⟨ρ, σd, D, sr, hr, p⟩ => ⟨ρ, σd, D, sr, hr, ?_⟩
  unfold sFor at p
  cases e1 : mi σd D with
  | bad => rw [e1] at p; exact p.elim
  | ok src D1 =>
    rw [e1] at p
    exact fun ρ1 H1 J u1 h1 it => loop_read it (sr.up u1) h1 (pS.up u1 p)
/-- a list or a tuple is walked -/
theorem pi_seq {l : Expr} {tl : TE} (hl : PE X l tl) : PI X tg l (fun σ H R => tl σ H fun x H1 => (∃ a, x = .ref a ∧ (∃ xs, SqL X.K H1 a xs) ∧ R (Itl X.K a) H1) ∨ (∃ a, x = .ref a ∧ (∃ xs, SqT X.K H1 a xs) ∧ R (Itt X.K a) H1)) := by
  refine ⟨fun pins s σ H R I h => ?_⟩
  refine thn (hl.run pins s σ H _ I h) fun v s1 ⟨x, H1, I1, r1, q1⟩ => ?_
  rcases q1 with ⟨a, e, ⟨xs, hq⟩, q⟩ | ⟨a, e, ⟨xs, hq⟩, q⟩
  · subst e
    cases r1
    obtain ⟨its, rv, p, hz⟩ := I1.list hq
    refine wpAny_pyIter_list p.isList ?_
    refine ⟨s1.heap.objs.size, [s1.heap.objs.size], _, _, H1, rfl, I1.kept (t' := s1.toks) fun b o e => Heap.get?_push_of_some _ e, turn_list a _, ⟨_, Heap.get?_push_size _ rfl, rfl, rfl⟩, fun b hb => ?_, q⟩
    have e : b = s1.heap.objs.size := by simpa using hb
    subst e
    exact I1.fpOk (Nat.le_refl _) (I1.hok.fresh (Nat.le_refl _))
  · subst e
    cases r1
    obtain ⟨its, rv, p, hz⟩ := I1.tuple hq
    refine wpAny_pyIter_tuple (show s1.heap.IsTuple a its.toArray from p) ?_
    refine ⟨s1.heap.objs.size, [s1.heap.objs.size], _, _, H1, rfl, I1.kept (t' := s1.toks) fun b o e => Heap.get?_push_of_some _ e, turn_tuple a _, ⟨_, Heap.get?_push_size _ rfl, rfl, rfl⟩, fun b hb => ?_, q⟩
    have e : b = s1.heap.objs.size := by simpa using hb
    subst e
    exact I1.fpOk (Nat.le_refl _) (I1.hok.fresh (Nat.le_refl _))
def iSeq (m : ME) : MI := fun σ D => match m σ D with
  | .ok (.tup xs) D1 => .ok (.vals xs) D1
  | .ok (.loc l) D1 => (match D1.get l with
    | some (.lst _ _) => .ok (.lst l) D1
    | _ => .bad)
  | _ => .bad
theorem seq_inj {ρ : List Addr} {H : Hp} {D : DH} {xs : List DV} {vs ws : List V} (r : VRs T ρ H xs vs) {i : Nat} {d : DV} (e : lat xs i = some d) : ∃ v, vs[i]? = some v ∧ VR T ρ H d v := by
  rw [lat_eq] at e
  exact r.at e
theorem itd_tup {ρ : List Addr} {H : Hp} {a : Addr} {xs : List DV} {vs : List V} (s : SqT T.K H a vs) (r : VRs T ρ H xs vs) : ItD T ρ H (.vals xs) (Itt T.K a) := by
  intro ρ1 D1 H1 u h i
  show match some (lat xs i) with
    | none => True
    | some none => (Itt T.K a).stop i H1
    | some (some d) => (Itt T.K a).go i H1 ∧ ∀ x H', (Itt T.K a).yld i H1 x H' → Up ρ1 H1 ρ1 H' ∧ HR T ρ1 D1 H' ∧ VR T ρ1 H' d x
  have s1 := u.sqT s
  have r1 := r.up u
  cases e : lat xs i with
  | none =>
    rw [lat_eq] at e
    exact ⟨vs, s1, by rw [r1.len]; exact List.getElem?_eq_none_iff.mp e⟩
  | some d =>
    obtain ⟨v, h1, h2⟩ := seq_inj (D := D1) (ws := []) r1 e
    refine ⟨⟨vs, v, s1, h1⟩, fun x H' y => ?_⟩
    obtain ⟨e', y⟩ := y
    subst e'
    have := y vs s1
    rw [h1] at this
    cases this
    exact ⟨Up.refl _ _, h, h2⟩
theorem itd_lst {ρ : List Addr} {H : Hp} {a : Addr} {l : Nat} (e : ρ[l]? = some a) : ItD T ρ H (.lst l) (Itl T.K a) := by
  intro ρ1 D1 H1 u h i
  have e1 := u.at e
  obtain ⟨o, g, j⟩ := h.obj l a e1
  show match (match D1.get l with
      | some (.lst _ xs) => some (lat xs i)
      | _ => none) with
    | none => True
    | some none => (Itl T.K a).stop i H1
    | some (some d) => (Itl T.K a).go i H1 ∧ ∀ x H', (Itl T.K a).yld i H1 x H' → Up ρ1 H1 ρ1 H' ∧ HR T ρ1 D1 H' ∧ VR T ρ1 H' d x
  rw [g]
  cases o with
  | lst fz xs =>
    obtain ⟨vs, r1, s1⟩ := j.seqL
    dsimp only
    cases e : lat xs i with
    | none =>
      rw [lat_eq] at e
      exact ⟨vs, s1, by rw [r1.len]; exact List.getElem?_eq_none_iff.mp e⟩
    | some d =>
      obtain ⟨v, h1, h2⟩ := seq_inj (D := D1) (ws := []) r1 e
      refine ⟨⟨vs, v, s1, h1⟩, fun x H' y => ?_⟩
      obtain ⟨e', y⟩ := y
      subst e'
      have := y vs s1
      rw [h1] at this
      cases this
      exact ⟨Up.refl _ _, h, h2⟩
  | _ => trivial
theorem ix_seqM {m : ME} (c : Cn T k X) (h : PE X iter (rE T m)) : PI X tg iter (rI T (iSeq m)) := by
  refine PIw (pi_seq h) fun σ H Q ⟨ρ, σd, D, sr, hr, p⟩ => ⟨ρ, σd, D, sr, hr, ?_⟩
  unfold iSeq at p
  cases e1 : m σd D with
  | bad => rw [e1] at p; exact p.elim
  | ok d D1 =>
    rw [e1] at p
    cases d with
    | tup xs =>
      intro ρ1 H1 v u1 h1 r1
      obtain ⟨a, vs, q, s, rv⟩ := r1
      rw [c.K]
      exact .inr ⟨a, q, ⟨vs, s⟩, p ρ1 H1 _ u1 h1 (itd_tup s rv)⟩
    | loc l =>
      intro ρ1 H1 v u1 h1 r1
      obtain ⟨a, e, q⟩ := r1
      rw [c.K]
      obtain ⟨o, g, j⟩ := h1.obj l a e
      have p : pI T ρ H (match D1.get l with
        | some (.lst _ _) => .ok (.lst l) D1
        | _ => .bad) Q := p
      rw [g] at p
      cases o with
      | lst fz xs =>
        obtain ⟨vs, rv, s⟩ := j.seqL
        exact .inl ⟨a, q, ⟨vs, s⟩, p ρ1 H1 _ u1 h1 (itd_lst (T := T) (H := H1) e)⟩
      | _ => exact p.elim
    | _ => exact p.elim
end
end FH

namespace FH
open PySem PySem.Spec PyProof.Rows L2

/-! ### calls of what is built in -/
section
variable {T : Tb} {k : Nat} {X : Cx} {e : Expr} {es : List Expr} {mr : MA} {p pos : Pos} {x : Str} {id : String} {f : List DV → DH → R DV}
theorem ex_callB (hc : CallR X (.builtin id) (rC T f)) (ha : PA X (e :: es) (rA T mr)) (hg : Gl X x := by rfl) (hm : X.mg x = none := by rfl) (hv : bootBuiltins x = some (.builtin id) := by rfl)
    (h1 : x ≠ Str.ofString "__name__" := by decide) (h2 : (x == Str.ofString "__debug__") = false := by decide) (h3 : starEach (e :: es) X.env = (false, eval e X.env) :: starEach es X.env := by rfl)
    (h4 : ((backTo pos (starEach es X.env)).any fun x => x.1) = false := by rfl) : PE X (.Call (.Name x p) (e :: es) [] pos) (rE T (mCall f mr)) :=
  PEw (pe_callB hc hg hm hv ha h1 h2 h3 h4) fun _ _ _ q => tC_of (fun _ _ _ z => z) q
theorem ex_callTy (hc : CallR X (.type id) (rC T f)) (ha : PA X (e :: es) (rA T mr)) (hg : Gl X x := by rfl) (hm : X.mg x = none := by rfl) (hv : bootBuiltins x = some (.type id) := by rfl)
    (h1 : x ≠ Str.ofString "__name__" := by decide) (h2 : (x == Str.ofString "__debug__") = false := by decide) (h3 : starEach (e :: es) X.env = (false, eval e X.env) :: starEach es X.env := by rfl)
    (h4 : ((backTo pos (starEach es X.env)).any fun x => x.1) = false := by rfl) : PE X (.Call (.Name x p) (e :: es) [] pos) (rE T (mCall f mr)) :=
  PEw (pe_callTy hc hg hm hv ha h1 h2 h3 h4) fun _ _ _ q => tC_of (fun _ _ _ z => z) q
end

theorem VRs.nil {T : Tb} {ρ : List Addr} {H : Hp} {vs : List V} (r : VRs T ρ H [] vs) : vs = [] := r
theorem VRs.one {T : Tb} {ρ : List Addr} {H : Hp} {d : DV} {vs : List V} (r : VRs T ρ H [d] vs) : ∃ v, vs = [v] ∧ VR T ρ H d v := by
  obtain ⟨v, r, e, h, q⟩ := r
  cases q
  exact ⟨v, e, h⟩
theorem VRs.two {T : Tb} {ρ : List Addr} {H : Hp} {d d' : DV} {vs : List V} (r : VRs T ρ H [d, d'] vs) : ∃ v w, vs = [v, w] ∧ VR T ρ H d v ∧ VR T ρ H d' w := by
  obtain ⟨v, r, e, h, q⟩ := r
  obtain ⟨w, rfl, h2⟩ := VRs.one q
  exact ⟨v, w, e, h, h2⟩
theorem KVR.len {T : Tb} {ρ : List Addr} {H : Hp} : ∀ {kvs : List (DV × DV)} {ks : List (Key × V)}, KVR T ρ H kvs ks → ks.length = kvs.length
  | [], _, h => by subst h; rfl
  | (k, d) :: r, _, h => by
    obtain ⟨k', v, r', e, _, _, h3⟩ := h
    subst e
    simp [KVR.len h3]
theorem KTV.len {T : Tb} {ρ : List Addr} {H : Hp} : ∀ {kvs : List (List DV × DV)} {ks : List (List Key × V)}, KTV T ρ H kvs ks → ks.length = kvs.length
  | [], _, h => by subst h; rfl
  | (k, d) :: r, _, h => by
    obtain ⟨k', v, r', e, _, _, h3⟩ := h
    subst e
    simp [KTV.len h3]
theorem KR.vr {T : Tb} {ρ : List Addr} {H : Hp} {d : DV} {k : Key} (h : KR d k) : VR T ρ H d (kV k) := by
  cases d with
  | int i => cases h; rfl
  | str cs => cases h; rfl
  | _ => exact h.elim
theorem KVR.keys {T : Tb} {ρ : List Addr} {H : Hp} : ∀ {kvs : List (DV × DV)} {ks : List (Key × V)}, KVR T ρ H kvs ks → VRs T ρ H (kvs.map (·.1)) (ks.map fun kv => kV kv.1)
  | [], _, h => by subst h; rfl
  | (k, d) :: r, _, h => by
    obtain ⟨k', v, r', e, h1, _, h3⟩ := h
    subst e
    exact ⟨_, _, rfl, h1.vr, KVR.keys h3⟩
theorem JR.rdK {T : Tb} {ρ : List Addr} {H : Hp} {a : Addr} {fz : Bool} {kvs : List (DV × DV)} (h : JR T ρ H a (.dK fz kvs)) : ∃ ks, KVR T ρ H kvs ks ∧ Rd H a (.dK ks) := by
  cases fz with
  | false => obtain ⟨vs, r, e⟩ := h; exact ⟨vs, r, .inl e⟩
  | true => obtain ⟨vs, o, r, e⟩ := h; exact ⟨vs, r, .inr ⟨o, e⟩⟩
theorem JR.rdT {T : Tb} {ρ : List Addr} {H : Hp} {a : Addr} {fz : Bool} {kvs : List (List DV × DV)} (h : JR T ρ H a (.dT fz kvs)) : ∃ ks, KTV T ρ H kvs ks ∧ Rd H a (.dT ks) := by
  cases fz with
  | false => obtain ⟨vs, r, e⟩ := h; exact ⟨vs, r, .inl e⟩
  | true => obtain ⟨vs, o, r, e⟩ := h; exact ⟨vs, r, .inr ⟨o, e⟩⟩

/-- len -/
def bLen (xs : List DV) (D : DH) : R DV := match xs with
  | [.str cs] => cond (Nat.ble cs.length lineN) (.ok (.int (.ofNat cs.length)) D) .bad
  | [.loc l] => (match D.get l with
    | some (.lst _ ys) => .ok (.int (.ofNat ys.length)) D
    | some (.dK false kvs) => .ok (.int (.ofNat kvs.length)) D
    | some (.dT false kvs) => .ok (.int (.ofNat kvs.length)) D
    | _ => .bad)
  | [.tup ys] => .ok (.int (.ofNat ys.length)) D
  | _ => .bad
theorem call_len4 {T : Tb} {k : Nat} {X : Cx} (c : Cn T k X) : CallR X (.builtin "len") (rC T bLen) := by
  refine CallRw ((call_len_seq.or call_len_str).or (call_lenD.or call_len_dT)) fun vs H Q ⟨ρ, D, as, h, r, p⟩ => ?_
  unfold bLen at p
  split at p
  · rename_i cs
    obtain ⟨v, rfl, rr⟩ := r.one; have r := rr; clear rr
    cases r
    obtain ⟨e, p⟩ := cond_ok p
    exact .inl (.inr ⟨_, rfl, ble_line e, pE_ok h (d := .int _) rfl p⟩)
  · rename_i l
    obtain ⟨v, rfl, rr⟩ := r.one; have r := rr; clear rr
    split at p
    · rename_i fz ys g
      obtain ⟨a, rfl, _, j⟩ := h.at r g
      obtain ⟨ws, rv, s⟩ := j.seqL
      refine .inl (.inl ⟨a, ws, rfl, .inl (by rw [c.K]; exact s), ?_⟩)
      rw [rv.len]
      exact pE_ok h (d := .int _) rfl p
    · rename_i kvs g
      obtain ⟨a, rfl, _, j⟩ := h.at r g
      obtain ⟨ks, rk, e⟩ := j
      refine .inr (.inl ⟨a, ks, rfl, e, ?_⟩)
      rw [rk.len]
      exact pE_ok h (d := .int _) rfl p
    · rename_i kvs g
      obtain ⟨a, rfl, _, j⟩ := h.at r g
      obtain ⟨ks, rk, e⟩ := j
      refine .inr (.inr ⟨a, ks, rfl, e, ?_⟩)
      rw [rk.len]
      exact pE_ok h (d := .int _) rfl p
    · exact p.elim
  · rename_i ys
    obtain ⟨v, rfl, rr⟩ := r.one; have r := rr; clear rr
    obtain ⟨a, ws, rfl, s, rv⟩ := r
    refine .inl (.inl ⟨a, ws, rfl, .inr (by rw [c.K]; exact s), ?_⟩)
    rw [rv.len]
    exact pE_ok h (d := .int _) rfl p
  · exact p.elim
/-- list(list, tuple, dict) -/
def bList (xs : List DV) (D : DH) : R DV := match xs with
  | [.tup ys] => D.new (.lst false ys)
  | [.loc l] => (match D.get l with
    | some (.lst _ ys) => D.new (.lst false ys)
    | some (.dK _ kvs) => D.new (.lst false (kvs.map (·.1)))
    | _ => .bad)
  | _ => .bad
theorem call_list3 {T : Tb} {k : Nat} {X : Cx} (c : Cn T k X) : CallR X (.type "list") (rC T bList) := by
  refine CallRw (call_list_of.or (call_listD c.calm)) fun vs H Q ⟨ρ, D, as, h, r, p⟩ => ?_
  unfold bList at p
  split at p
  · rename_i ys
    obtain ⟨v, rfl, rr⟩ := r.one; have r := rr; clear rr
    obtain ⟨a, ws, rfl, s, rv⟩ := r
    exact .inl ⟨a, ws, rfl, .inr (by rw [c.K]; exact s), fun q hq => pE_new h p hq ⟨ws, rv.up (up_add hq), upd_same⟩⟩
  · rename_i l
    obtain ⟨v, rfl, rr⟩ := r.one; have r := rr; clear rr
    split at p
    · rename_i fz ys g
      obtain ⟨a, rfl, _, j⟩ := h.at r g
      obtain ⟨ws, rv, s⟩ := j.seqL
      exact .inl ⟨a, ws, rfl, .inl (by rw [c.K]; exact s), fun q hq => pE_new h p hq ⟨ws, rv.up (up_add hq), upd_same⟩⟩
    · rename_i fz kvs g
      obtain ⟨a, rfl, _, j⟩ := h.at r g
      obtain ⟨ks, rk, e⟩ := j.rdK
      exact .inr ⟨a, ks, rfl, e, fun q hq => pE_new h p hq ⟨_, rk.keys.up (up_add hq), upd_same⟩⟩
    · exact p.elim
  · exact p.elim
/-- tuple(list, tuple) -/
def bTup (xs : List DV) (D : DH) : R DV := match xs with
  | [.tup ys] => .ok (.tup ys) D
  | [.loc l] => (match D.get l with
    | some (.lst _ ys) => .ok (.tup ys) D
    | _ => .bad)
  | _ => .bad
theorem call_tup2 {T : Tb} {k : Nat} {X : Cx} (c : Cn T k X) : CallR X (.type "tuple") (rC T bTup) := by
  refine CallRw call_tuple_of fun vs H Q ⟨ρ, D, as, h, r, p⟩ => ?_
  unfold bTup at p
  split at p
  · rename_i ys
    obtain ⟨v, rfl, rr⟩ := r.one; have r := rr; clear rr
    obtain ⟨a, ws, rfl, s, rv⟩ := r
    exact ⟨a, ws, rfl, .inr ⟨by rw [c.K]; exact s, pE_ok h (d := .tup ys) ⟨a, ws, rfl, s, rv⟩ p⟩⟩
  · rename_i l
    obtain ⟨v, rfl, rr⟩ := r.one; have r := rr; clear rr
    split at p
    · rename_i fz ys g
      obtain ⟨a, rfl, _, j⟩ := h.at r g
      obtain ⟨ws, rv, s⟩ := j.seqL
      exact ⟨a, ws, rfl, .inl ⟨by rw [c.K]; exact s, fun q hq => pE_tup h rv p hq⟩⟩
    · exact p.elim
  · exact p.elim

/-! ### sums, bounds, bools -/
def intsB : List DV → Bool
  | [] => true
  | .int _ :: r => intsB r
  | _ :: _ => false
def intsD : List DV → List Int
  | .int i :: r => i :: intsD r
  | _ => []
theorem ints_ok {T : Tb} {ρ : List Addr} {H : Hp} : ∀ {ds : List DV} {vs : List V}, intsB ds = true → VRs T ρ H ds vs → vs = (intsD ds).map V.int ∧ (intsD ds).length = ds.length
  | [], vs, _, r => by cases r; exact ⟨rfl, rfl⟩
  | d :: ds, vs, h, r => by
    cases d with
    | int i =>
      obtain ⟨v, w, rfl, h1, h2⟩ := r
      cases h1
      obtain ⟨e1, e2⟩ := ints_ok (ds := ds) h h2
      exact ⟨by rw [e1]; rfl, by show (intsD ds).length + 1 = ds.length + 1; rw [e2]⟩
    | _ => cases h
def bls : List DV → Option (List Bool)
  | [] => some []
  | .bl b :: r => (match bls r with
    | some t => some (b :: t)
    | none => none)
  | _ :: _ => none
theorem bls_ok {T : Tb} {ρ : List Addr} {H : Hp} : ∀ {ds : List DV} {vs : List V} {bs : List Bool}, bls ds = some bs → VRs T ρ H ds vs → vs = bs.map V.bl
  | [], vs, bs, h, r => by cases h; cases r; rfl
  | d :: ds, vs, bs, h, r => by
    cases d with
    | bl b =>
      obtain ⟨v, w, rfl, h1, h2⟩ := r
      cases h1
      unfold bls at h
      cases g : bls ds with
      | none => rw [g] at h; cases h
      | some t =>
        rw [g] at h; cases h
        rw [bls_ok g h2]; rfl
    | _ => cases h
def listOf (D : DH) : DV → Option (List DV)
  | .loc l => (match D.get l with
    | some (.lst _ xs) => some xs
    | _ => none)
  | _ => none
theorem listOf_ok {T : Tb} {ρ : List Addr} {H : Hp} {D : DH} (h : HR T ρ D H) {d : DV} {v : V} {xs : List DV} (r : VR T ρ H d v) (e : listOf D d = some xs) : ∃ a vs, v = .ref a ∧ VRs T ρ H xs vs ∧ SqL T.K H a vs := by
  unfold listOf at e
  split at e
  · split at e
    · rename_i fz ys g
      cases e
      obtain ⟨a, rfl, _, j⟩ := h.at r g
      obtain ⟨ws, rv, s⟩ := j.seqL
      exact ⟨a, ws, rfl, rv, s⟩
    · cases e
  · cases e
def anyB : List Bool → Bool
  | [] => false
  | b :: r => cond b true (anyB r)
def allB : List Bool → Bool
  | [] => true
  | b :: r => cond b (allB r) false
theorem anyB_eq : ∀ bs : List Bool, bs.any id = anyB bs
  | [] => rfl
  | b :: r => by simp only [List.any_cons, anyB_eq r, anyB, id]; cases b <;> rfl
theorem allB_eq : ∀ bs : List Bool, bs.all id = allB bs
  | [] => rfl
  | b :: r => by simp only [List.all_cons, allB_eq r, allB, id]; cases b <;> rfl
def bBls (f : List Bool → Bool) (xs : List DV) (D : DH) : R DV := match xs with
  | [x] => (match listOf D x with
    | some ys => (match bls ys with
      | some bs => .ok (.bl (f bs)) D
      | none => .bad)
    | none => .bad)
  | _ => .bad
theorem bBls_ok {T : Tb} {f : List Bool → Bool} {xs : List DV} {vs : List V} {ρ : List Addr} {H : Hp} {D : DH} {Q : VK} (h : HR T ρ D H) (r : VRs T ρ H xs vs) (p : pE T ρ H (bBls f xs D) Q) :
    ∃ a bs, vs = [V.ref a] ∧ SqL T.K H a (bs.map V.bl) ∧ Q (.bl (f bs)) H := by
  unfold bBls at p
  split at p
  · obtain ⟨v, rfl, rr⟩ := r.one; have r := rr; clear rr
    split at p
    · rename_i ys g
      obtain ⟨a, ws, rfl, rv, s⟩ := listOf_ok h r g
      split at p
      · rename_i bs g2
        rw [bls_ok g2 rv] at s
        exact ⟨a, bs, rfl, s, pE_ok h (d := .bl _) rfl p⟩
      · exact p.elim
    · exact p.elim
  · exact p.elim
theorem call_anyM {T : Tb} {k : Nat} {X : Cx} (c : Cn T k X) : CallR X (.builtin "any") (rC T (bBls anyB)) := CallRw (cr_any c.calm) fun vs H Q ⟨ρ, D, as, h, r, p⟩ => by
  obtain ⟨a, bs, e, s, q⟩ := bBls_ok h r p
  exact ⟨a, bs, e, by rw [c.K]; exact s, by rw [anyB_eq]; exact q⟩
theorem call_allM {T : Tb} {k : Nat} {X : Cx} (c : Cn T k X) : CallR X (.builtin "all") (rC T (bBls allB)) := CallRw (cr_all c.calm) fun vs H Q ⟨ρ, D, as, h, r, p⟩ => by
  obtain ⟨a, bs, e, s, q⟩ := bBls_ok h r p
  exact ⟨a, bs, e, by rw [c.K]; exact s, by rw [allB_eq]; exact q⟩
def sumI : List Int → Int
  | [] => 0
  | i :: r => Int.add i (sumI r)
theorem sumI_eq : ∀ l : List Int, l.sum = sumI l
  | [] => rfl
  | i :: r => by rw [List.sum_cons, sumI_eq r]; rfl
def bSum (xs : List DV) (D : DH) : R DV := match xs with
  | [x] => (match listOf D x with
    | some ys => cond (intsB ys) (.ok (.int (sumI (intsD ys))) D) .bad
    | none => .bad)
  | _ => .bad
theorem call_sumM {T : Tb} {k : Nat} {X : Cx} (c : Cn T k X) : CallR X (.builtin "sum") (rC T bSum) := CallRw (cr_sum c.calm) fun vs H Q ⟨ρ, D, as, h, r, p⟩ => by
  unfold bSum at p
  split at p
  · obtain ⟨v, rfl, rr⟩ := r.one; have r := rr; clear rr
    split at p
    · rename_i ys g
      obtain ⟨a, ws, rfl, rv, s⟩ := listOf_ok h r g
      obtain ⟨e, p⟩ := cond_ok p
      rw [(ints_ok e rv).1] at s
      refine ⟨a, _, rfl, by rw [c.K]; exact s, ?_⟩
      rw [sumI_eq]
      exact pE_ok h (d := .int _) rfl p
    · exact p.elim
  · exact p.elim
/-- the greatest (gt), the least of a list of ints; of two -/
def bestI (gt : Bool) : Int → List Int → Int
  | m, [] => m
  | m, i :: r => cond (cond gt (PySem.W.Z.ltB m i) (PySem.W.Z.ltB i m)) (bestI gt i r) (bestI gt m r)
theorem bestI_mem (gt : Bool) : ∀ (l : List Int) (m : Int), bestI gt m l = m ∨ bestI gt m l ∈ l
  | [], m => .inl rfl
  | i :: r, m => by
    unfold bestI
    cases cond gt (PySem.W.Z.ltB m i) (PySem.W.Z.ltB i m) with
    | true => exact (bestI_mem gt r i).elim (fun e => .inr (by rw [cond_true, e]; exact List.mem_cons_self)) fun e => .inr (List.mem_cons_of_mem _ e)
    | false => exact (bestI_mem gt r m).elim .inl fun e => .inr (List.mem_cons_of_mem _ e)
theorem ltB_of {i j : Int} (h : PySem.W.Z.ltB i j = true) : i < j := (PySem.W.Z.ltB_iff i j).mp h
theorem ltB_no {i j : Int} (h : PySem.W.Z.ltB i j = false) : j ≤ i := by
  refine Int.not_lt.mp fun q => ?_
  rw [(PySem.W.Z.ltB_iff i j).mpr q] at h
  cases h
theorem bestI_max : ∀ (l : List Int) (m : Int), m ≤ bestI true m l ∧ ∀ y ∈ l, y ≤ bestI true m l
  | [], m => ⟨Int.le_refl _, fun _ h => by cases h⟩
  | i :: r, m => by
    unfold bestI
    simp only [cond_true]
    cases e : PySem.W.Z.ltB m i with
    | true =>
      obtain ⟨h1, h2⟩ := bestI_max r i
      have := ltB_of e
      refine ⟨by simp only [cond_true]; omega, fun y hy => ?_⟩
      rcases List.mem_cons.mp hy with rfl | hy
      · exact h1
      · exact h2 y hy
    | false =>
      obtain ⟨h1, h2⟩ := bestI_max r m
      have := ltB_no e
      refine ⟨h1, fun y hy => ?_⟩
      rcases List.mem_cons.mp hy with rfl | hy
      · simp only [cond_false]; omega
      · exact h2 y hy
theorem bestI_min : ∀ (l : List Int) (m : Int), bestI false m l ≤ m ∧ ∀ y ∈ l, bestI false m l ≤ y
  | [], m => ⟨Int.le_refl _, fun _ h => by cases h⟩
  | i :: r, m => by
    unfold bestI
    simp only [cond_false]
    cases e : PySem.W.Z.ltB i m with
    | true =>
      obtain ⟨h1, h2⟩ := bestI_min r i
      have := ltB_of e
      refine ⟨by simp only [cond_true]; omega, fun y hy => ?_⟩
      rcases List.mem_cons.mp hy with rfl | hy
      · exact h1
      · exact h2 y hy
    | false =>
      obtain ⟨h1, h2⟩ := bestI_min r m
      have := ltB_no e
      refine ⟨h1, fun y hy => ?_⟩
      rcases List.mem_cons.mp hy with rfl | hy
      · simp only [cond_false]; omega
      · exact h2 y hy
def bBest (gt : Bool) (xs : List DV) (D : DH) : R DV := match xs with
  | [.int i, .int j] => .ok (.int (cond (cond gt (PySem.W.Z.ltB i j) (PySem.W.Z.ltB j i)) j i)) D
  | [x] => (match listOf D x with
    | some ys => cond (intsB ys) (match intsD ys with
      | [] => .bad
      | i :: r => .ok (.int (bestI gt i r)) D) .bad
    | none => .bad)
  | _ => .bad
theorem ite_cond {α : Type} {p : Prop} [Decidable p] {b : Bool} (h : b = true ↔ p) (x y : α) : (if p then x else y) = cond b x y := by
  cases b with
  | true => rw [if_pos (h.mp rfl)]; rfl
  | false => rw [if_neg fun q => by cases h.mpr q]; rfl
theorem call_maxM {T : Tb} {k : Nat} {X : Cx} (c : Cn T k X) : CallR X (.builtin "max") (rC T (bBest true)) := CallRw ((call_max2 c.calm).or (cr_max c.calm)) fun vs H Q ⟨ρ, D, as, h, r, p⟩ => by
  unfold bBest at p
  split at p
  · rename_i i j
    obtain ⟨v, w, rfl, r1, r2⟩ := r.two
    cases r1; cases r2
    refine .inl ⟨i, j, rfl, ?_⟩
    rw [ite_cond (b := PySem.W.Z.ltB i j) (PySem.W.Z.ltB_iff i j)]
    exact pE_ok h (d := .int _) rfl p
  · obtain ⟨v, rfl, rr⟩ := r.one; have r := rr; clear rr
    split at p
    · rename_i ys g
      obtain ⟨a, ws, rfl, rv, s⟩ := listOf_ok h r g
      obtain ⟨e, p⟩ := cond_ok p
      rw [(ints_ok e rv).1] at s
      cases g2 : intsD ys with
      | nil => rw [g2] at p; exact p.elim
      | cons i l =>
        rw [g2] at p s
        refine .inr ⟨a, _, rfl, by rw [c.K]; exact s, by simp, fun m hm hy => ?_⟩
        obtain ⟨b1, b2⟩ := bestI_max l i
        have e : m = bestI true i l := by
          refine Int.le_antisymm ?_ ?_
          · rcases List.mem_cons.mp hm with rfl | hm
            · exact b1
            · exact b2 m hm
          · rcases bestI_mem true l i with q | q
            · rw [q]; exact hy i List.mem_cons_self
            · exact hy _ (List.mem_cons_of_mem _ q)
        rw [e]
        exact pE_ok h (d := .int _) rfl p
    · exact p.elim
  · exact p.elim
theorem call_minM {T : Tb} {k : Nat} {X : Cx} (c : Cn T k X) : CallR X (.builtin "min") (rC T (bBest false)) := CallRw ((call_min2 c.calm).or (cr_min c.calm)) fun vs H Q ⟨ρ, D, as, h, r, p⟩ => by
  unfold bBest at p
  split at p
  · rename_i i j
    obtain ⟨v, w, rfl, r1, r2⟩ := r.two
    cases r1; cases r2
    refine .inl ⟨i, j, rfl, ?_⟩
    rw [ite_cond (b := PySem.W.Z.ltB j i) (PySem.W.Z.ltB_iff j i)]
    exact pE_ok h (d := .int _) rfl p
  · obtain ⟨v, rfl, rr⟩ := r.one; have r := rr; clear rr
    split at p
    · rename_i ys g
      obtain ⟨a, ws, rfl, rv, s⟩ := listOf_ok h r g
      obtain ⟨e, p⟩ := cond_ok p
      rw [(ints_ok e rv).1] at s
      cases g2 : intsD ys with
      | nil => rw [g2] at p; exact p.elim
      | cons i l =>
        rw [g2] at p s
        refine .inr ⟨a, _, rfl, by rw [c.K]; exact s, by simp, fun m hm hy => ?_⟩
        obtain ⟨b1, b2⟩ := bestI_min l i
        have e : m = bestI false i l := by
          refine Int.le_antisymm ?_ ?_
          · rcases bestI_mem false l i with q | q
            · rw [q]; exact hy i List.mem_cons_self
            · exact hy _ (List.mem_cons_of_mem _ q)
          · rcases List.mem_cons.mp hm with rfl | hm
            · exact b1
            · exact b2 m hm
        rw [e]
        exact pE_ok h (d := .int _) rfl p
    · exact p.elim
  · exact p.elim
/-- int(int or bool), abs -/
def bInt (xs : List DV) (D : DH) : R DV := match xs with
  | [.int i] => .ok (.int i) D
  | [.bl b] => .ok (.int (cond b 1 0)) D
  | _ => .bad
theorem call_intM {T : Tb} {k : Nat} {X : Cx} (c : Cn T k X) : CallR X (.type "int") (rC T bInt) := CallRw call_int1 fun vs H Q ⟨ρ, D, as, h, r, p⟩ => by
  unfold bInt at p
  split at p
  · obtain ⟨v, rfl, rr⟩ := r.one; have r := rr; clear rr
    cases r
    exact .inl ⟨_, rfl, pE_ok h (d := .int _) rfl p⟩
  · rename_i b
    obtain ⟨v, rfl, rr⟩ := r.one; have r := rr; clear rr
    cases r
    refine .inr ⟨b, rfl, ?_⟩
    have e : (if b = true then (1 : Int) else 0) = cond b 1 0 := by cases b <;> rfl
    rw [e]
    exact pE_ok h (d := .int _) rfl p
  · exact p.elim
def bAbs (xs : List DV) (D : DH) : R DV := match xs with
  | [.int i] => .ok (.int (cond (PySem.W.Z.ltB i 0) (Int.neg i) i)) D
  | _ => .bad
theorem call_absM {T : Tb} {k : Nat} {X : Cx} (c : Cn T k X) : CallR X (.builtin "abs") (rC T bAbs) := CallRw call_abs fun vs H Q ⟨ρ, D, as, h, r, p⟩ => by
  unfold bAbs at p
  split at p
  · rename_i i
    obtain ⟨v, rfl, rr⟩ := r.one; have r := rr; clear rr
    cases r
    refine ⟨i, rfl, ?_⟩
    rw [ite_cond (b := PySem.W.Z.ltB i 0) (PySem.W.Z.ltB_iff i 0)]
    exact pE_ok h (d := .int _) rfl p
  · exact p.elim

/-! ### isinstance -/
/-- what the layer must know of the classes -/
structure KitOk (T : Tb) : Prop where
  cc : ∀ c d, c < T.nc → d < T.nc → PySem.W.kitOne T.K (.ref (T.cls c)) (.ref (T.cls d)) = some (Nat.beq c d)
  cb : ∀ c n, c < T.nc → n < 7 → PySem.W.kitOne T.K (.ref (T.cls c)) (.type (tyN n)) = some false
  bc : ∀ n d, n < 7 → d < T.nc → PySem.W.kitOne T.K (.type (tyN n)) (.ref (T.cls d)) = some false
  cl : ∀ c, c < T.nc → Cls T.K (T.cls c)
  f1 : ∀ c, c < T.nc → PySem.W.findIn T.K (.ref (T.cls c)) (Str.ofString "__class__") = some (some (.builtin "object.__class__"))
  f2 : PySem.W.specialIn T.K (.builtin "object.__class__") (Str.ofString "__get__") = some (some (.builtin "getset_descriptor.__get__"))
  f3 : PySem.W.takesIn T.K (.builtin "object.__class__") = some true
  f4 : ∀ c, c < T.nc → PySem.W.mroIn T.K (T.cls c) (.type "object") = some true
def isiB (a b : Nat) : Bool := cond (Nat.beq a b) true (cond (Nat.beq a 2) (Nat.beq b 0) false)
theorem isiB_ok : ∀ a < 7, ∀ b < 7, kitB (tyN a) (tyN b) = some (isiB a b) := by decide +kernel
/-- the type of a value, by number -/
def tyD (D : DH) : DV → Option Nat
  | .non => some 6
  | .bl _ => some 2
  | .int _ => some 0
  | .str _ => some 1
  | .tup _ => some 3
  | .loc l => (match D.get l with
    | some (.lst _ _) => some 4
    | some (.dK _ _) => some 5
    | some (.dT false _) => some 5
    | some (.ins c _) => some (Nat.add 16 c)
    | _ => none)
  | _ => none
def tyVal (T : Tb) (t : Nat) : Value := cond (Nat.blt t 16) (.type (tyN t)) (.ref (T.cls (Nat.sub t 16)))
theorem tyD_ok {T : Tb} (kt : KitOk T) {ρ : List Addr} {H : Hp} {D : DH} (h : HR T ρ D H) {d : DV} {v : V} {t : Nat} (r : VR T ρ H d v) (e : tyD D d = some t) (hb : t < 7 ∨ (16 ≤ t ∧ t - 16 < T.nc)) : TyX T.K H v (tyVal T t) := by
  cases d with
  | non => cases e; cases r; exact .base .non
  | bl b => cases e; cases r; exact .base (.bl b)
  | int i => cases e; cases r; exact .base (.int i)
  | str s => cases e; cases r; exact .base (.str _)
  | tup xs =>
    cases e
    obtain ⟨a, vs, rfl, s, _⟩ := r
    rcases s with (s | ⟨o, s⟩) | ⟨o, its, n, s1, s2, _⟩
    · exact .base (.tup s)
    · exact .fTuple s
    · exact .kTuple s1 s2
  | loc l =>
    dsimp only [tyD] at e
    split at e
    · rename_i fz xs g
      cases e
      obtain ⟨a, rfl, _, j⟩ := h.at r g
      cases fz with
      | false => obtain ⟨_, _, e⟩ := j; exact .base (.lst e)
      | true => obtain ⟨_, _, _, e⟩ := j; exact .base (.frz e)
    · rename_i fz xs g
      cases e
      obtain ⟨a, rfl, _, j⟩ := h.at r g
      cases fz with
      | false => obtain ⟨_, _, e⟩ := j; exact .base (.dK e)
      | true => obtain ⟨_, _, _, e⟩ := j; exact .fDict e
    · rename_i xs g
      cases e
      obtain ⟨a, rfl, _, j⟩ := h.at r g
      obtain ⟨_, _, e⟩ := j
      exact .base (.dT e)
    · rename_i c fs g
      cases e
      obtain ⟨a, rfl, _, dx, gs, _, q⟩ := h.at r g
      have hc : c < T.nc := by
        rcases hb with hb | ⟨_, hb⟩
        · have : Nat.add 16 c = 16 + c := rfl
          omega
        · have : Nat.add 16 c = 16 + c := rfl
          omega
      have e1 : tyVal T (Nat.add 16 c) = .ref (T.cls c) := by
        unfold tyVal
        have : Nat.blt (Nat.add 16 c) 16 = false := by
          cases z : Nat.blt (Nat.add 16 c) 16 with
          | false => rfl
          | true =>
            have := Nat.le_of_ble_eq_true z
            have e : Nat.add 16 c = 16 + c := rfl
            omega
        rw [this, cond_false]
        congr 2
        exact Nat.add_sub_cancel_left 16 c
      rw [e1]
      exact .base (.ins q (kt.cl c hc) (kt.f1 c hc) kt.f2 kt.f3 (kt.f4 c hc))
    · cases e
  | cn _ => cases e
  | opq => cases e
  | act => exact r.elim
/-- the answer, from the two numbers -/
def isiN (nc t u : Nat) : Option Bool := cond (Nat.blt t 7) (cond (Nat.blt u 7) (some (isiB t u)) (cond (Nat.ble 16 u) (cond (Nat.blt (Nat.sub u 16) nc) (some false) none) none))
  (cond (Nat.ble 16 t) (cond (Nat.blt (Nat.sub t 16) nc) (cond (Nat.blt u 7) (some false) (cond (Nat.ble 16 u) (cond (Nat.blt (Nat.sub u 16) nc) (some (Nat.beq (Nat.sub t 16) (Nat.sub u 16))) none) none)) none) none)
theorem cond_some {α : Type} {c : Bool} {x : Option α} {b : α} (h : cond c x none = some b) : c = true ∧ x = some b := by
  cases c with
  | true => exact ⟨rfl, h⟩
  | false => cases h
theorem blt_lt {a b : Nat} (h : Nat.blt a b = true) : a < b := Nat.le_of_ble_eq_true h
theorem tyVal_lo {T : Tb} {t : Nat} (h : t < 7) : tyVal T t = .type (tyN t) := by
  unfold tyVal
  rw [show Nat.blt t 16 = true from Nat.ble_eq_true_of_le (show t + 1 ≤ 16 by omega)]; rfl
theorem tyVal_hi {T : Tb} {t : Nat} (h : 16 ≤ t) : tyVal T t = .ref (T.cls (t - 16)) := by
  unfold tyVal
  cases z : Nat.blt t 16 with
  | false => rfl
  | true => exact absurd (blt_lt z) (by omega)
theorem isiN_ok {T : Tb} (kt : KitOk T) {t u : Nat} {b : Bool} (e : isiN T.nc t u = some b) : (t < 7 ∨ (16 ≤ t ∧ t - 16 < T.nc)) ∧ (u < 7 ∨ (16 ≤ u ∧ u - 16 < T.nc)) ∧ PySem.W.kitOne T.K (tyVal T t) (tyVal T u) = some b := by
  unfold isiN at e
  cases e1 : Nat.blt t 7 with
  | true =>
    rw [e1, cond_true] at e
    have h1 := blt_lt e1
    cases e2 : Nat.blt u 7 with
    | true =>
      rw [e2, cond_true] at e
      have h2 := blt_lt e2
      rw [tyVal_lo h1, tyVal_lo h2]
      exact ⟨.inl h1, .inl h2, kit_ty ((isiB_ok t h1 u h2).trans e)⟩
    | false =>
      rw [e2, cond_false] at e
      obtain ⟨e3, e⟩ := cond_some e
      obtain ⟨e4, e⟩ := cond_some e
      have h3 : 16 ≤ u := Nat.le_of_ble_eq_true e3
      have h4 : u - 16 < T.nc := blt_lt e4
      cases e
      rw [tyVal_lo h1, tyVal_hi h3]
      exact ⟨.inl h1, .inr ⟨h3, h4⟩, kt.bc t _ h1 h4⟩
  | false =>
    rw [e1, cond_false] at e
    obtain ⟨e3, e⟩ := cond_some e
    obtain ⟨e4, e⟩ := cond_some e
    have h3 : 16 ≤ t := Nat.le_of_ble_eq_true e3
    have h4 : t - 16 < T.nc := blt_lt e4
    cases e2 : Nat.blt u 7 with
    | true =>
      rw [e2, cond_true] at e
      have h2 := blt_lt e2
      cases e
      rw [tyVal_hi h3, tyVal_lo h2]
      exact ⟨.inr ⟨h3, h4⟩, .inl h2, kt.cb _ u h4 h2⟩
    | false =>
      rw [e2, cond_false] at e
      obtain ⟨e5, e⟩ := cond_some e
      obtain ⟨e6, e⟩ := cond_some e
      have h5 : 16 ≤ u := Nat.le_of_ble_eq_true e5
      have h6 : u - 16 < T.nc := blt_lt e6
      rw [tyVal_hi h3, tyVal_hi h5]
      exact ⟨.inr ⟨h3, h4⟩, .inr ⟨h5, h6⟩, (kt.cc _ _ h4 h6).trans e⟩
theorem cn_ok {T : Tb} {ρ : List Addr} {H : Hp} {u : Nat} {v : V} (h : u < 7 ∨ (16 ≤ u ∧ u - 16 < 1000)) (r : VR T ρ H (.cn u) v) : ClsV v (tyVal T u) := by
  have r : T.con u = some v := r
  unfold Tb.con at r
  rcases h with h | ⟨h, h'⟩
  · rw [show Nat.blt u 16 = true from Nat.ble_eq_true_of_le (show u + 1 ≤ 16 by omega), cond_true] at r
    cases r
    rw [tyVal_lo h]
    exact .ty _
  · rw [show Nat.blt u 16 = false from by
      cases z : Nat.blt u 16 with
      | false => rfl
      | true => exact absurd (blt_lt z) (by omega), cond_false, show Nat.blt u 1016 = true from Nat.ble_eq_true_of_le (show u + 1 ≤ 1016 by omega), cond_true] at r
    cases r
    rw [tyVal_hi h]
    exact .own _
def bIsi (nc : Nat) (xs : List DV) (D : DH) : R DV := match xs with
  | [x, .cn u] => (match tyD D x with
    | some t => (match isiN nc t u with
      | some b => .ok (.bl b) D
      | none => .bad)
    | none => .bad)
  | _ => .bad
theorem call_isiM {T : Tb} {k : Nat} {X : Cx} (c : Cn T k X) (kt : KitOk T) (hn : T.nc ≤ 1000) {nc : Nat} (e : T.nc = nc) : CallR X (.builtin "isinstance") (rC T (bIsi nc)) := CallRw call_isi fun vs H Q ⟨ρ, D, as, h, r, p⟩ => by
  subst e
  unfold bIsi at p
  split at p
  · obtain ⟨v, w, rfl, r1, r2⟩ := r.two
    split at p
    · rename_i x u t g
      split at p
      · rename_i b g2
        obtain ⟨h1, h2, h3⟩ := isiN_ok kt g2
        refine ⟨v, w, _, _, b, rfl, cn_ok (h2.imp id fun h => ⟨h.1, by omega⟩) r2, ?_, by rw [c.K]; exact h3, pE_ok h (d := .bl b) rfl p⟩
        rw [c.K]
        exact tyD_ok kt h r1 g h1
      · exact p.elim
    · exact p.elim
  · exact p.elim
end FH

namespace FH
open PySem PySem.Spec PyProof.Rows L2

/-! ### dicts -/
def isKey : DV → Bool
  | .int _ => true
  | .str _ => true
  | _ => false
def keyB : DV → DV → Bool
  | .int i, y => (match y with | .int j => PySem.W.Z.eqB i j | _ => false)
  | .str a, y => (match y with | .str b => natsEq a b | _ => false)
  | _, _ => false
theorem KR.of {T : Tb} {ρ : List Addr} {H : Hp} {d : DV} {v : V} (h : isKey d = true) (r : VR T ρ H d v) : ∃ k, v = kV k ∧ KR d k := by
  cases d with
  | int i => cases r; exact ⟨.inl i, rfl, rfl⟩
  | str s => cases r; exact ⟨.inr _, rfl, rfl⟩
  | _ => cases h
theorem KR.key {d : DV} {k : Key} (h : KR d k) : isKey d = true := by
  cases d with
  | int i => rfl
  | str s => rfl
  | _ => exact h.elim
theorem keyB_ok {d e : DV} {k l : Key} (h : KR d k) (h' : KR e l) : keyB d e = decide (k = l) := by
  cases d with
  | int i =>
    cases h
    cases e with
    | int j => cases h'; simp only [keyB, eqB_eq]; rw [Bool.eq_iff_iff]; simp
    | str s => cases h'; simp [keyB]
    | _ => exact h'.elim
  | str s =>
    cases h
    cases e with
    | int j => cases h'; simp [keyB]
    | str t => cases h'; simp only [keyB, natsEq_str]; rw [Bool.eq_iff_iff]; simp
    | _ => exact h'.elim
  | _ => exact h.elim
def valD : List (DV × DV) → DV → Option DV
  | [], _ => none
  | (k, d) :: r, x => cond (keyB k x) (some d) (valD r x)
def hasD : List (DV × DV) → DV → Bool
  | [], _ => false
  | (k, _) :: r, x => cond (keyB k x) true (hasD r x)
def repD : List (DV × DV) → DV → DV → List (DV × DV)
  | [], _, _ => []
  | (k, d) :: r, x, y => cond (keyB k x) ((k, y) :: repD r x y) ((k, d) :: repD r x y)
def putD (kvs : List (DV × DV)) (k v : DV) : List (DV × DV) := cond (hasD kvs k) (repD kvs k v) (kvs ++ [(k, v)])
def mergeD (a : List (DV × DV)) : List (DV × DV) → List (DV × DV)
  | [] => a
  | (k, v) :: r => mergeD (putD a k v) r
section
variable {T : Tb} {ρ : List Addr} {H : Hp}
theorem KVR.get {x : DV} {l : Key} (hx : KR x l) : ∀ {kvs : List (DV × DV)} {ks : List (Key × V)}, KVR T ρ H kvs ks →
    (∀ d, valD kvs x = some d → ∃ v, valV ks l = some v ∧ VR T ρ H d v) ∧ (valD kvs x = none → valV ks l = none)
  | [], _, h => by cases h; exact ⟨fun _ e => (by cases e), fun _ => rfl⟩
  | (k, d) :: r, _, h => by
    obtain ⟨k', v, r', rfl, h1, h2, h3⟩ := h
    have ih := KVR.get hx h3
    unfold valD
    rw [keyB_ok h1 hx]
    by_cases e : k' = l
    · rw [decide_eq_true e, cond_true]
      have : valV ((k', v) :: r') l = some v := by unfold valV; rw [List.find?_cons_of_pos (by simpa using e)]; rfl
      rw [this]
      exact ⟨fun d' e' => by cases e'; exact ⟨v, rfl, h2⟩, fun e' => by cases e'⟩
    · rw [decide_eq_false e, cond_false]
      have : valV ((k', v) :: r') l = valV r' l := by unfold valV; rw [List.find?_cons_of_neg (by simpa using e)]
      rw [this]
      exact ih
theorem KVR.has {x : DV} {l : Key} (hx : KR x l) : ∀ {kvs : List (DV × DV)} {ks : List (Key × V)}, KVR T ρ H kvs ks → hasD kvs x = ks.any fun kv => decide (kv.1 = l)
  | [], _, h => by cases h; rfl
  | (k, d) :: r, _, h => by
    obtain ⟨k', v, r', rfl, h1, h2, h3⟩ := h
    unfold hasD
    rw [keyB_ok h1 hx, KVR.has hx h3, List.any_cons]
    cases decide (k' = l) <;> rfl
theorem KVR.rep {x y : DV} {l : Key} {w : V} (hx : KR x l) (hy : VR T ρ H y w) : ∀ {kvs : List (DV × DV)} {ks : List (Key × V)}, KVR T ρ H kvs ks → KVR T ρ H (repD kvs x y) (ks.map fun kv => if kv.1 = l then (kv.1, w) else kv)
  | [], _, h => by cases h; rfl
  | (k, d) :: r, _, h => by
    obtain ⟨k', v, r', rfl, h1, h2, h3⟩ := h
    unfold repD
    rw [keyB_ok h1 hx, List.map_cons]
    by_cases e : k' = l
    · rw [decide_eq_true e, cond_true, if_pos e]
      exact ⟨k', w, _, rfl, h1, hy, KVR.rep hx hy h3⟩
    · rw [decide_eq_false e, cond_false, if_neg e]
      exact ⟨k', v, _, rfl, h1, h2, KVR.rep hx hy h3⟩
theorem KVR.app : ∀ {kvs kws : List (DV × DV)} {ks ls : List (Key × V)}, KVR T ρ H kvs ks → KVR T ρ H kws ls → KVR T ρ H (kvs ++ kws) (ks ++ ls)
  | [], _, _, _, h, h' => by cases h; exact h'
  | (k, d) :: r, _, _, _, h, h' => by
    obtain ⟨k', v, r', rfl, h1, h2, h3⟩ := h
    exact ⟨k', v, _, rfl, h1, h2, KVR.app h3 h'⟩
theorem KVR.put {x y : DV} {l : Key} {w : V} (hx : KR x l) (hy : VR T ρ H y w) {kvs : List (DV × DV)} {ks : List (Key × V)} (h : KVR T ρ H kvs ks) : KVR T ρ H (putD kvs x y) (putK ks l w) := by
  unfold putD putK
  rw [h.has hx]
  cases e : ks.any fun kv => decide (kv.1 = l) with
  | true => rw [if_pos rfl]; exact h.rep hx hy
  | false => rw [if_neg (by simp)]; exact h.app ⟨l, w, [], rfl, hx, hy, rfl⟩
theorem KVR.merge : ∀ {kws : List (DV × DV)} {ls : List (Key × V)} {kvs : List (DV × DV)} {ks : List (Key × V)}, KVR T ρ H kvs ks → KVR T ρ H kws ls → KVR T ρ H (mergeD kvs kws) (mergeK ks ls)
  | [], _, _, _, h, h' => by cases h'; exact h
  | (k, d) :: r, _, _, _, h, h' => by
    obtain ⟨k', v, r', rfl, h1, h2, h3⟩ := h'
    have q := KVR.merge (kws := r) (ls := r') (KVR.put h1 h2 h) h3
    exact q
end

/-! tuples as keys -/
def fkeys : List DV → Bool
  | [] => true
  | x :: r => cond (isKey x) (fkeys r) false
theorem KTR.of {T : Tb} {ρ : List Addr} {H : Hp} : ∀ {ds : List DV} {vs : List V}, fkeys ds = true → VRs T ρ H ds vs → ∃ k, vs = k.map kV ∧ KTR ds k
  | [], _, _, r => by cases r; exact ⟨[], rfl, rfl⟩
  | x :: xs, _, h, r => by
    obtain ⟨v, w, rfl, h1, h2⟩ := r
    unfold fkeys at h
    obtain ⟨e, h⟩ : isKey x = true ∧ fkeys xs = true := by
      cases e : isKey x with
      | true => rw [e] at h; exact ⟨rfl, h⟩
      | false => rw [e] at h; cases h
    obtain ⟨k, rfl, q⟩ := KTR.of h h2
    cases x with
    | int i => cases h1; exact ⟨.inl i :: k, rfl, k, rfl, q⟩
    | str s => cases h1; exact ⟨.inr _ :: k, rfl, k, rfl, q⟩
    | _ => cases e
def keyTB : List DV → List DV → Bool
  | [], ys => (match ys with | [] => true | _ => false)
  | x :: xs, ys => (match ys with | [] => false | y :: ys => cond (keyB x y) (keyTB xs ys) false)
theorem KTR.cons {d : DV} {ds : List DV} {k : List Key} (h : KTR (d :: ds) k) : ∃ a r, k = a :: r ∧ KR d a ∧ KTR ds r := by
  cases d with
  | int i => obtain ⟨r, e, q⟩ := h; exact ⟨_, r, e, rfl, q⟩
  | str s => obtain ⟨r, e, q⟩ := h; exact ⟨_, r, e, rfl, q⟩
  | _ => exact h.elim
theorem keyTB_ok : ∀ {ds es : List DV} {k l : List Key}, KTR ds k → KTR es l → keyTB ds es = decide (k = l)
  | [], [], _, _, h, h' => by cases h; cases h'; rfl
  | [], e :: es, _, _, h, h' => by
    obtain ⟨a, r, rfl, _, _⟩ := KTR.cons h'
    cases h; simp [keyTB]
  | d :: ds, [], _, _, h, h' => by
    obtain ⟨a, r, rfl, _, _⟩ := KTR.cons h
    cases h'; simp [keyTB]
  | d :: ds, e :: es, _, _, h, h' => by
    obtain ⟨a, r, rfl, h1, h2⟩ := KTR.cons h
    obtain ⟨b, s, rfl, h3, h4⟩ := KTR.cons h'
    unfold keyTB
    dsimp only
    rw [keyB_ok h1 h3, keyTB_ok h2 h4, Bool.eq_iff_iff]
    by_cases e : a = b <;> simp [e]
def valTD : List (List DV × DV) → List DV → Option DV
  | [], _ => none
  | (k, d) :: r, x => cond (keyTB k x) (some d) (valTD r x)
def hasTD : List (List DV × DV) → List DV → Bool
  | [], _ => false
  | (k, _) :: r, x => cond (keyTB k x) true (hasTD r x)
def repTD : List (List DV × DV) → List DV → DV → List (List DV × DV)
  | [], _, _ => []
  | (k, d) :: r, x, y => cond (keyTB k x) ((k, y) :: repTD r x y) ((k, d) :: repTD r x y)
def putTD (kvs : List (List DV × DV)) (k : List DV) (v : DV) : List (List DV × DV) := cond (hasTD kvs k) (repTD kvs k v) (kvs ++ [(k, v)])
section
variable {T : Tb} {ρ : List Addr} {H : Hp}
theorem KTV.get {x : List DV} {l : List Key} (hx : KTR x l) : ∀ {kvs : List (List DV × DV)} {ks : List (List Key × V)}, KTV T ρ H kvs ks →
    (∀ d, valTD kvs x = some d → ∃ v, valV ks l = some v ∧ VR T ρ H d v) ∧ (valTD kvs x = none → valV ks l = none)
  | [], _, h => by cases h; exact ⟨fun _ e => (by cases e), fun _ => rfl⟩
  | (k, d) :: r, _, h => by
    obtain ⟨k', v, r', rfl, h1, h2, h3⟩ := h
    have ih := KTV.get hx h3
    unfold valTD
    rw [keyTB_ok h1 hx]
    by_cases e : k' = l
    · rw [decide_eq_true e, cond_true]
      have : valV ((k', v) :: r') l = some v := by unfold valV; rw [List.find?_cons_of_pos (by simpa using e)]; rfl
      rw [this]
      exact ⟨fun d' e' => by cases e'; exact ⟨v, rfl, h2⟩, fun e' => by cases e'⟩
    · rw [decide_eq_false e, cond_false]
      have : valV ((k', v) :: r') l = valV r' l := by unfold valV; rw [List.find?_cons_of_neg (by simpa using e)]
      rw [this]
      exact ih
theorem KTV.has {x : List DV} {l : List Key} (hx : KTR x l) : ∀ {kvs : List (List DV × DV)} {ks : List (List Key × V)}, KTV T ρ H kvs ks → hasTD kvs x = ks.any fun kv => decide (kv.1 = l)
  | [], _, h => by cases h; rfl
  | (k, d) :: r, _, h => by
    obtain ⟨k', v, r', rfl, h1, h2, h3⟩ := h
    unfold hasTD
    rw [keyTB_ok h1 hx, KTV.has hx h3, List.any_cons]
    cases decide (k' = l) <;> rfl
theorem KTV.rep {x : List DV} {y : DV} {l : List Key} {w : V} (hx : KTR x l) (hy : VR T ρ H y w) : ∀ {kvs : List (List DV × DV)} {ks : List (List Key × V)}, KTV T ρ H kvs ks → KTV T ρ H (repTD kvs x y) (ks.map fun kv => if kv.1 = l then (kv.1, w) else kv)
  | [], _, h => by cases h; rfl
  | (k, d) :: r, _, h => by
    obtain ⟨k', v, r', rfl, h1, h2, h3⟩ := h
    unfold repTD
    rw [keyTB_ok h1 hx, List.map_cons]
    by_cases e : k' = l
    · rw [decide_eq_true e, cond_true, if_pos e]
      exact ⟨k', w, _, rfl, h1, hy, KTV.rep hx hy h3⟩
    · rw [decide_eq_false e, cond_false, if_neg e]
      exact ⟨k', v, _, rfl, h1, h2, KTV.rep hx hy h3⟩
theorem KTV.app : ∀ {kvs kws : List (List DV × DV)} {ks ls : List (List Key × V)}, KTV T ρ H kvs ks → KTV T ρ H kws ls → KTV T ρ H (kvs ++ kws) (ks ++ ls)
  | [], _, _, _, h, h' => by cases h; exact h'
  | (k, d) :: r, _, _, _, h, h' => by
    obtain ⟨k', v, r', rfl, h1, h2, h3⟩ := h
    exact ⟨k', v, _, rfl, h1, h2, KTV.app h3 h'⟩
theorem KTV.put {x : List DV} {y : DV} {l : List Key} {w : V} (hx : KTR x l) (hy : VR T ρ H y w) {kvs : List (List DV × DV)} {ks : List (List Key × V)} (h : KTV T ρ H kvs ks) : KTV T ρ H (putTD kvs x y) (putK ks l w) := by
  unfold putTD putK
  rw [h.has hx]
  cases e : ks.any fun kv => decide (kv.1 = l) with
  | true => rw [if_pos rfl]; exact h.rep hx hy
  | false => rw [if_neg (by simp)]; exact h.app ⟨l, w, [], rfl, hx, hy, rfl⟩
end

/-! ### d[k], k in d, d[k] = v -/
/-- the entry of a dict, if there -/
def dLook (x y : DV) (D : DH) : Option (Option DV) := match x with
  | .loc l => (match D.get l with
    | some (.dK _ kvs) => cond (isKey y) (some (valD kvs y)) none
    | _ => none)
  | _ => none
theorem dLook_ok {T : Tb} {ρ : List Addr} {H : Hp} {D : DH} (h : HR T ρ D H) {x y : DV} {v w : V} {o : Option DV} (r1 : VR T ρ H x v) (r2 : VR T ρ H y w) (e : dLook x y D = some o) :
    ∃ a o', v = .ref a ∧ DGet H a w o' ∧ IsD H a ∧ (∀ d, o = some d → ∃ u, o' = some u ∧ VR T ρ H d u) ∧ (o = none → o' = none) := by
  unfold dLook at e
  split at e
  · split at e
    · rename_i l fz kvs g
      obtain ⟨c, e⟩ := cond_some e
      obtain ⟨a, rfl, _, j⟩ := h.at r1 g
      obtain ⟨ks, rk, hd⟩ := j.rdK
      obtain ⟨k, rfl, hk⟩ := KR.of c r2
      obtain ⟨g1, g2⟩ := rk.get hk
      obtain rfl := Option.some.inj e
      exact ⟨a, _, rfl, .inl ⟨ks, k, hd, rfl, rfl⟩, .inl ⟨ks, hd⟩, g1, g2⟩
    · cases e
  · cases e
def dGet (x y : DV) (D : DH) : R DV := match dLook x y D with
  | some (some d) => .ok d D
  | _ => .bad
def dHas (neg : Bool) (x y : DV) (D : DH) : R DV := match dLook y x D with
  | some o => .ok (.bl (cond neg (!o.isSome) o.isSome)) D
  | none => .bad
section
variable {T : Tb} {k : Nat} {X : Cx} {o i e f value : Expr} {mo mi mv : ME} {pos pos' apos : Pos}
theorem ex_dget (c : Cn T k X) (ho : PE X o (rE T mo)) (hi : PE X i (rE T mi)) (hs : NoSl i := by exact fun _ _ => rfl) : PE X (.Subscript o i pos) (rE T (mBin dGet mo mi)) :=
  PEw (pe_dget c.hu ho hi hs) fun σ H Q q => by
    refine tOp_of (T := T) (r := fun x y H2 Q => ∃ a v, x = .ref a ∧ DGet H2 a y (some v) ∧ Q v H2) (fun x y H Q ⟨ρ, D, a, b, h, ra, rb, p⟩ => ?_) q
    unfold dGet at p
    split at p
    · rename_i d g
      obtain ⟨ad, o', rfl, h1, _, h2, _⟩ := dLook_ok h ra rb g
      obtain ⟨u, rfl, r⟩ := h2 d rfl
      exact ⟨ad, u, rfl, h1, pE_ok h r p⟩
    · exact p.elim
theorem dHas_of {neg : Bool} : ∀ x y H Q, r2 T (dHas neg) x y H Q → ∃ a o, y = .ref a ∧ DGet H a x o ∧ Q (.bl (cond neg (!o.isSome) o.isSome)) H := fun x y H Q ⟨ρ, D, a, b, h, ra, rb, p⟩ => by
  unfold dHas at p
  split at p
  · rename_i o g
    obtain ⟨ad, o', rfl, h1, _, h2, h3⟩ := dLook_ok h rb ra g
    refine ⟨ad, o', rfl, h1, ?_⟩
    have e : o.isSome = o'.isSome := by
      cases o with
      | none => rw [h3 rfl]; rfl
      | some d => obtain ⟨u, rfl, _⟩ := h2 d rfl; rfl
    rw [e] at p
    exact pE_ok h (d := .bl _) rfl p
  · exact p.elim
theorem ex_din (c : Cn T k X) (hi : PE X i (rE T mi)) (ho : PE X o (rE T mo)) (hm : behindInMarks .In o = false := by rfl) : PE X (.Compare i [.In] [o] pos) (rE T (mBin (dHas false) mi mo)) :=
  PEw (pe_cmp (pc_din c.hu hi ho) hm) fun σ H Q q => tOp_of (T := T) (r := fun y x H2 Q => ∃ a o, x = .ref a ∧ DGet H2 a y o ∧ Q (.bl o.isSome) H2) dHas_of q
theorem ex_dnotin (c : Cn T k X) (hi : PE X i (rE T mi)) (ho : PE X o (rE T mo)) (hm : behindInMarks .NotIn o = false := by rfl) : PE X (.Compare i [.NotIn] [o] pos) (rE T (mBin (dHas true) mi mo)) :=
  PEw (pe_cmp (pc_dnotin c.hu hi ho) hm) fun σ H Q q => tOp_of (T := T) (r := fun y x H2 Q => ∃ a o, x = .ref a ∧ DGet H2 a y o ∧ Q (.bl (!o.isSome)) H2) dHas_of q
theorem tx_din (c : Cn T k X) (hi : PE X i (rE T mi)) (ho : PE X o (rE T mo)) (hm : behindInMarks .In o = false := by rfl) : PT X (.Compare i [.In] [o] pos) (rT T (tV (mBin (dHas false) mi mo))) :=
  PTw (pt_cmp (pc_din c.hu hi ho) hm) fun σ H Q q => tV_of (fun σ H Q q => tOp_of (T := T) (r := fun y x H2 Q => ∃ a o, x = .ref a ∧ DGet H2 a y o ∧ Q (.bl o.isSome) H2) dHas_of q) q
theorem tx_dnotin (c : Cn T k X) (hi : PE X i (rE T mi)) (ho : PE X o (rE T mo)) (hm : behindInMarks .NotIn o = false := by rfl) : PT X (.Compare i [.NotIn] [o] pos) (rT T (tV (mBin (dHas true) mi mo))) :=
  PTw (pt_cmp (pc_dnotin c.hu hi ho) hm) fun σ H Q q => tV_of (fun σ H Q q => tOp_of (T := T) (r := fun y x H2 Q => ∃ a o, x = .ref a ∧ DGet H2 a y o ∧ Q (.bl (!o.isSome)) H2) dHas_of q) q

/-! ### the same with a written tuple as the key -/
def dLookT (x : DV) (ys : List DV) (D : DH) : Option (Option DV) := match x with
  | .loc l => (match D.get l with
    | some (.dT _ kvs) => cond (fkeys ys) (some (valTD kvs ys)) none
    | some (.dK _ []) => cond (fkeys ys) (some none) none
    | _ => none)
  | _ => none
end
end FH

namespace FH
open PySem PySem.Spec PyProof.Rows L2

def lineLt (n : Nat) : Bool := Nat.blt n lineN
theorem lineLt_ok {n : Nat} (h : lineLt n = true) : n < sizeLine := by
  rw [sizeLine_eq]; exact blt_lt h
/-- a dict written -/
def dPut (x y v : DV) (D : DH) : Option DH := match x with
  | .loc l => (match D.get l with
    | some (.dK false kvs) => cond (isKey y) (cond (lineLt kvs.length) (some (D.put l (.dK false (putD kvs y v)))) none) none
    | _ => none)
  | _ => none
theorem dPut_ok {T : Tb} {ρ : List Addr} {H : Hp} {D D' : DH} (h : HR T ρ D H) {x y d : DV} {v w u : V} (r1 : VR T ρ H x v) (r2 : VR T ρ H y w) (r3 : VR T ρ H d u) (e : dPut x y d D = some D') :
    ∃ a H', v = .ref a ∧ DPut H a w u H' ∧ Up ρ H ρ H' ∧ HR T ρ D' H' := by
  unfold dPut at e
  split at e
  · split at e
    · rename_i l kvs g
      obtain ⟨c, e⟩ := cond_some e
      obtain ⟨c2, e⟩ := cond_some e
      obtain rfl := Option.some.inj e
      obtain ⟨a, rfl, hl, ks, rk, hd⟩ := h.at r1 g
      obtain ⟨k, rfl, hk⟩ := KR.of c r2
      have u1 : Up ρ H ρ (upd H a (.dK (putK ks k u))) := up_put hd trivial (fun _ z => by cases z)
      exact ⟨a, _, rfl, .inl ⟨ks, k, hd, rfl, by rw [rk.len]; exact lineLt_ok c2, rfl⟩, u1, h.put hl hd trivial (fun _ z => by cases z) ⟨_, KVR.put hk (r3.up u1) (rk.up u1), upd_same⟩⟩
    · cases e
  · cases e
def sDput (mv mo mi : ME) : MS := fun σ D => match mv σ D with
  | .ok v D1 => (match mo σ D1 with
    | .ok x D2 => (match mi σ D2 with
      | .ok y D3 => (match dPut x y v D3 with
        | some D4 => .nx σ D4
        | none => .bad)
      | .bad => .bad)
    | .bad => .bad)
  | .bad => .bad
section
variable {T : Tb} {k : Nat} {X : Cx} {o i e f value : Expr} {mo mi mv : ME} {pos pos' apos cpos : Pos}
theorem sx_dput (c : Cn T k X) (ho : PE X o (rE T mo)) (hi : PE X i (rE T mi)) (hv : PE X value (rE T mv)) (hs : swapsWith value (some (.Subscript o i pos')) pos.line X.env = pure false := by rfl) : PS X (.Assign [.Subscript o i pos'] value pos) (rS T (sDput mv mo mi)) := by
  refine PSw (ps_dput c.hu ho hi hv hs) fun E σ H ⟨ρ, σd, D, sr, hr, p⟩ => ⟨ρ, σd, D, sr, hr, ?_⟩
  unfold sDput at p
  cases e1 : mv σd D with
  | bad => rw [e1] at p; exact p.elim
  | ok v D1 =>
    rw [e1] at p
    intro ρ1 H1 v' u1 h1 r1
    refine ⟨ρ1, σd, D1, sr.up u1, h1, ?_⟩
    dsimp only at p
    cases e2 : mo σd D1 with
    | bad => rw [e2] at p; exact p.elim
    | ok x D2 =>
      rw [e2] at p
      intro ρ2 H2 x' u2 h2 r2
      refine ⟨ρ2, σd, D2, sr.up (u1.trans u2), h2, ?_⟩
      dsimp only at p
      cases e3 : mi σd D2 with
      | bad => rw [e3] at p; exact p.elim
      | ok y D3 =>
        rw [e3] at p
        intro ρ3 H3 y' u3 h3 r3
        dsimp only at p
        cases e4 : dPut x y v D3 with
        | none => rw [e4] at p; exact p.elim
        | some D4 =>
          rw [e4] at p
          obtain ⟨a, H4, rfl, hp, u4, h4⟩ := dPut_ok h3 (r2.up u3) r3 (r1.up (u2.trans u3)) e4
          have u : Up ρ H ρ3 H4 := u1.trans (u2.trans (u3.trans u4))
          exact ⟨a, H4, rfl, hp, p ρ3 H4 σ u h4 (sr.up u)⟩
/-- {} -/
def mDNew (tup : Bool) : ME := fun _ D => D.new (cond tup (.dT false []) (.dK false []))
theorem ex_dnewK : PE X (.Dict [] [] pos) (rE T (mDNew false)) := PEw pe_dnewK fun σ H Q ⟨ρ, σd, D, sr, hr, p⟩ q hq => pE_new hr p hq ⟨[], rfl, upd_same⟩
theorem ex_dnewT : PE X (.Dict [] [] pos) (rE T (mDNew true)) := PEw pe_dnewT fun σ H Q ⟨ρ, σd, D, sr, hr, p⟩ q hq => pE_new hr p hq ⟨[], rfl, upd_same⟩
end

/-! ### a dict display: the dict first, then its pairs -/
abbrev MP := DL → DH → R (List (DV × DV))
def PR (T : Tb) (ρ : List Addr) (H : Hp) : List (DV × DV) → List (V × V) → Prop
  | [], ps => ps = []
  | (k, d) :: r, ps => ∃ k' v r', ps = (k', v) :: r' ∧ VR T ρ H k k' ∧ VR T ρ H d v ∧ PR T ρ H r r'
def pP (T : Tb) (ρ : List Addr) (H : Hp) (r : R (List (DV × DV))) (Q : List (V × V) → Hp → Prop) : Prop := match r with
  | .ok ds D => ∀ ρ' H' ps, Up ρ H ρ' H' → HR T ρ' D H' → PR T ρ' H' ds ps → Q ps H'
  | .bad => False
def mpNil : MP := fun _ D => .ok [] D
def mpCons (a b : ME) (r : MP) : MP := fun σ D => match a σ D with
  | .ok x D1 => (match b σ D1 with
    | .ok y D2 => (match r σ D2 with
      | .ok ps D3 => .ok ((x, y) :: ps) D3
      | .bad => .bad)
    | .bad => .bad)
  | .bad => .bad
/-- a machine's pairs and the layer's -/
inductive DPs (T : Tb) (X : Cx) (pos : Pos) : List (Option Expr) → List Expr → MP → Prop where
  | mk {keys values m trs} (run : PPs X pos keys values trs) (rd : ∀ σ H Q, (∃ ρ σd D, SR T ρ H σd σ ∧ HR T ρ D H ∧ pP T ρ H (m σd D) Q) → tPairs trs σ H Q) : DPs T X pos keys values m
theorem dps_nil {T : Tb} {X : Cx} {pos : Pos} : DPs T X pos [] [] mpNil := ⟨pps_nil, fun σ H Q ⟨ρ, σd, D, sr, hr, p⟩ => p ρ H [] (Up.refl _ _) hr rfl⟩
theorem dps_cons {T : Tb} {X : Cx} {pos : Pos} {a b : Expr} {ks : List (Option Expr)} {vs : List Expr} {ma mb : ME} {m : MP} (ha : PE X a (rE T ma)) (hb : PE X b (rE T mb)) (h : DPs T X pos ks vs m) : DPs T X pos (some a :: ks) (b :: vs) (mpCons ma mb m) := by
  obtain ⟨run, rd⟩ := h
  refine ⟨pps_cons ha hb run, fun σ H Q ⟨ρ, σd, D, sr, hr, p⟩ => ?_⟩
  rw [tPairs.eq_2]
  refine ⟨ρ, σd, D, sr, hr, ?_⟩
  unfold mpCons at p
  cases e1 : ma σd D with
  | bad => rw [e1] at p; exact p.elim
  | ok x D1 =>
    rw [e1] at p
    intro ρ1 H1 v1 u1 h1 r1
    refine ⟨ρ1, σd, D1, sr.up u1, h1, ?_⟩
    dsimp only at p
    cases e2 : mb σd D1 with
    | bad => rw [e2] at p; exact p.elim
    | ok y D2 =>
      rw [e2] at p
      intro ρ2 H2 v2 u2 h2 r2
      refine rd _ _ _ ⟨ρ2, σd, D2, sr.up (u1.trans u2), h2, ?_⟩
      dsimp only at p
      cases e3 : m σd D2 with
      | bad => rw [e3] at p; exact p.elim
      | ok ps D3 =>
        rw [e3] at p
        exact fun ρ3 H3 qs u3 h3 r3 => p ρ3 H3 _ (u1.trans (u2.trans u3)) h3 ⟨_, _, _, rfl, r1.up (u2.trans u3), r2.up u3, r3⟩
def pairsOk : List (DV × DV) → Bool
  | [] => true
  | (k, _) :: r => cond (isKey k) (pairsOk r) false
theorem PR.kvr {T : Tb} {ρ : List Addr} {H : Hp} : ∀ {ds : List (DV × DV)} {ps : List (V × V)}, pairsOk ds = true → PR T ρ H ds ps → ∃ kvs : List (Key × V), ps = kvs.map (fun kv => (kV kv.1, kv.2)) ∧ KVR T ρ H ds kvs
  | [], _, _, h => by cases h; exact ⟨[], rfl, rfl⟩
  | (k, d) :: r, _, c, h => by
    obtain ⟨k', v, r', rfl, h1, h2, h3⟩ := h
    unfold pairsOk at c
    obtain ⟨c1, c2⟩ : isKey k = true ∧ pairsOk r = true := by
      cases e : isKey k with
      | true => rw [e] at c; exact ⟨rfl, c⟩
      | false => rw [e] at c; cases c
    obtain ⟨a, rfl, ha⟩ := KR.of c1 h1
    obtain ⟨kvs, rfl, q⟩ := PR.kvr c2 h3
    exact ⟨(a, v) :: kvs, rfl, a, v, kvs, rfl, ha, h2, q⟩
def mDisp (m : MP) : ME := fun σ D => cond (Nat.blt D.n bigN) (match m σ (D.add (.dK false [])) with
  | .ok ps D1 => (match D1.get D.n with
    | some (.dK false []) => cond (pairsOk ps) (cond (Nat.ble ps.length 15) (.ok (.loc D.n) (D1.put D.n (.dK false (mergeD [] ps)))) .bad) .bad
    | _ => .bad)
  | .bad => .bad) .bad
theorem ex_disp {T : Tb} {X : Cx} {keys : List (Option Expr)} {values : List Expr} {pos : Pos} {m : MP} (h : DPs T X pos keys values m) (hall : (keys.all fun x => x.isSome) = true := by rfl) (hl : keys.length = values.length := by rfl) (h0 : keys ≠ [] := by intro z; cases z) (h15 : keys.length ≤ 15 := by decide) :
    PE X (.Dict keys values pos) (rE T (mDisp m)) := by
  obtain ⟨run, rd⟩ := h
  refine PEw (pe_disp run hall hl h0 h15) fun σ H Q ⟨ρ, σd, D, sr, hr, p⟩ q hq => ?_
  unfold mDisp at p
  obtain ⟨c0, p⟩ := cond_ok p
  have hn : D.n < bigN := blt_lt c0
  have h1 : HR T (ρ ++ [q]) (D.add (.dK false [])) (upd H q (.dK [])) := hr.add hn hq ⟨[], rfl, upd_same⟩
  have u1 : Up ρ H (ρ ++ [q]) (upd H q (.dK [])) := up_add hq
  have hq1 : (ρ ++ [q])[D.n]? = some q := by
    rw [← hr.len, List.getElem?_append_right (Nat.le_refl _)]
    simp
  refine rd _ _ _ ⟨ρ ++ [q], σd, _, sr.up u1, h1, ?_⟩
  cases e1 : m σd (D.add (.dK false [])) with
  | bad => rw [e1] at p; exact p.elim
  | ok ps D1 =>
    rw [e1] at p
    dsimp only at p
    intro ρ2 H2 qs u2 h2 r2
    split at p
    · rename_i g
      obtain ⟨c1, p⟩ := cond_ok p
      obtain ⟨c2, p⟩ := cond_ok p
      obtain ⟨a, e, hl, ks, rk, hd⟩ := h2.at (v := .ref q) ⟨q, u2.at hq1, rfl⟩ g
      obtain rfl : q = a := by cases e; rfl
      cases rk
      obtain ⟨kvs, rfl, q2⟩ := PR.kvr c1 r2
      have u3 : Up ρ2 H2 ρ2 (upd H2 q (.dK (mergeK [] kvs))) := up_put hd trivial (fun _ z => by cases z)
      refine ⟨hd, kvs, rfl, by rw [q2.len]; exact Nat.le_of_ble_eq_true c2, ?_⟩
      refine p ρ2 _ (.ref q) (u1.trans (u2.trans u3)) (h2.put hl hd trivial (fun _ z => by cases z) ⟨_, KVR.merge (ks := []) rfl (q2.up u3), upd_same⟩) ⟨q, u2.at hq1, rfl⟩
    · exact p.elim

/-! ### dict(d), dict(pairs), setdefault -/
/-- pairs as tuples -/
def prs : List DV → Option (List (DV × DV))
  | [] => some []
  | .tup [k, v] :: r => (match prs r with
    | some t => cond (isKey k) (some ((k, v) :: t)) none
    | none => none)
  | _ :: _ => none
def bDict (xs : List DV) (D : DH) : R DV := match xs with
  | [.loc l] => (match D.get l with
    | some (.dK _ kvs) => D.new (.dK false kvs)
    | some (.lst _ ys) => (match prs ys with
      | some ps => D.new (.dK false (mergeD [] ps))
      | none => .bad)
    | _ => .bad)
  | _ => .bad
theorem prs_ok {T : Tb} {ρ : List Addr} {H : Hp} : ∀ {ys : List DV} {vs : List V} {ps : List (DV × DV)}, prs ys = some ps → VRs T ρ H ys vs →
    ∃ (as : List Addr) (kvs : List (Key × V)), vs = as.map V.ref ∧ Paired (fun p kv => SqT T.K H p [kV kv.1, kv.2]) as kvs ∧ KVR T ρ H ps kvs
  | [], vs, ps, h, r => by cases h; cases r; exact ⟨[], [], rfl, .nil, rfl⟩
  | y :: ys, vs, ps, h, r => by
    unfold prs at h
    split at h
    · rename_i e; cases e
    · rename_i k v r' e
      cases e
      cases g : prs ys with
      | none => rw [g] at h; cases h
      | some t =>
        rw [g] at h
        obtain ⟨c, h⟩ := cond_some h
        cases h
        obtain ⟨w, ws, rfl, h1, h2⟩ := r
        obtain ⟨a, us, rfl, s, ru⟩ := h1
        obtain ⟨k', v', rfl, rk, rv⟩ := ru.two
        obtain ⟨a2, rfl, hk⟩ := KR.of c rk
        obtain ⟨as, kvs, rfl, pd, q⟩ := prs_ok g h2
        exact ⟨a :: as, (a2, v') :: kvs, rfl, .cons s pd, a2, v', kvs, rfl, hk, rv, q⟩
    · cases h
theorem call_dictM {T : Tb} {k : Nat} {X : Cx} (c : Cn T k X) : CallR X (.type "dict") (rC T bDict) := CallRw (call_dictD.or (call_dictP c.calm)) fun vs H Q ⟨ρ, D, as, h, r, p⟩ => by
  unfold bDict at p
  split at p
  · obtain ⟨v, rfl, rr⟩ := r.one; have r := rr; clear rr
    split at p
    · rename_i fz kvs g
      obtain ⟨a, rfl, _, j⟩ := h.at r g
      obtain ⟨ks, rk, e⟩ := j.rdK
      exact .inl ⟨a, ks, rfl, e, fun q hq => pE_new h p hq ⟨_, rk.up (up_add hq), upd_same⟩⟩
    · rename_i fz ys g
      obtain ⟨a, rfl, _, j⟩ := h.at r g
      obtain ⟨ws, rv, s⟩ := j.seqL
      split at p
      · rename_i ps g2
        obtain ⟨bs, kvs, rfl, pd, q⟩ := prs_ok g2 rv
        refine .inr ⟨a, bs, kvs, rfl, by rw [c.K]; exact s, by rw [c.K]; exact pd, fun n hn => pE_new h p hn ⟨_, KVR.merge (ks := []) rfl (q.up (up_add hn)), upd_same⟩⟩
      · exact p.elim
    · exact p.elim
  · exact p.elim
def mSetd (md my mx : ME) : ME := fun σ D => match md σ D with
  | .ok x D1 => (match dLook x (.int 0) D1 with
    | some _ => (match my σ D1 with
      | .ok y D2 => (match mx σ D2 with
        | .ok z D3 => (match dLook x y D3 with
          | some (some d) => (match dPut x y z D3 with
            | some _ => .ok d D3
            | none => .bad)
          | some none => (match dPut x y z D3 with
            | some D4 => .ok z D4
            | none => .bad)
          | none => .bad)
        | .bad => .bad)
      | .bad => .bad)
    | none => .bad)
  | .bad => .bad
theorem dSetd_ok {T : Tb} {ρ : List Addr} {H : Hp} {D D' : DH} (h : HR T ρ D H) {x y d : DV} {v w u : V} {o : Option DV} (r1 : VR T ρ H x v) (r2 : VR T ρ H y w) (r3 : VR T ρ H d u) (e : dPut x y d D = some D') (g : dLook x y D = some o) :
    ∃ a kvs k, v = .ref a ∧ H a = some (.dK kvs) ∧ w = kV k ∧ kvs.length < sizeLine ∧ (∀ z, o = some z → ∃ z', valV kvs k = some z' ∧ VR T ρ H z z') ∧ (o = none → valV kvs k = none) ∧ Up ρ H ρ (upd H a (.dK (putK kvs k u))) ∧ HR T ρ D' (upd H a (.dK (putK kvs k u))) := by
  unfold dPut at e
  split at e
  · split at e
    · rename_i l _ kvs g1
      obtain ⟨c, e⟩ := cond_some e
      obtain ⟨c2, e⟩ := cond_some e
      obtain rfl := Option.some.inj e
      obtain ⟨a, rfl, hl, ks, rk, hd⟩ := h.at r1 g1
      obtain ⟨k, rfl, hk⟩ := KR.of c r2
      have u1 : Up ρ H ρ (upd H a (.dK (putK ks k u))) := up_put hd trivial (fun _ z => by cases z)
      have g : (match D.get l with
        | some (.dK _ kvs) => cond (isKey y) (some (valD kvs y)) none
        | _ => none) = some o := g
      rw [g1] at g
      dsimp only at g
      rw [c, cond_true] at g
      obtain rfl := Option.some.inj g
      obtain ⟨q1, q2⟩ := rk.get hk
      exact ⟨a, ks, k, rfl, hd, rfl, by rw [rk.len]; exact lineLt_ok c2, q1, q2, u1, h.put hl hd trivial (fun _ z => by cases z) ⟨_, KVR.put hk (r3.up u1) (rk.up u1), upd_same⟩⟩
    · cases e
  · cases e
section
variable {T : Tb} {k : Nat} {X : Cx} {o e f : Expr} {md my mx : ME} {apos cpos : Pos}
theorem ex_setd (c : Cn T k X) (ho : PE X o (rE T md)) (he : PE X e (rE T my)) (hf : PE X f (rE T mx)) (m : M2 X o (Str.ofString "setdefault") apos e f cpos) : PE X (.Call (.Attribute o (Str.ofString "setdefault") apos) [e, f] [] cpos) (rE T (mSetd md my mx)) := by
  refine PEw (pe_dsetd ho he hf m) fun σ H Q ⟨ρ, σd, D, sr, hr, p⟩ => ⟨ρ, σd, D, sr, hr, ?_⟩
  unfold mSetd at p
  cases e1 : md σd D with
  | bad => rw [e1] at p; exact p.elim
  | ok x D1 =>
    rw [e1] at p
    intro ρ1 H1 v u1 h1 r1
    dsimp only at p
    split at p
    · rename_i o' g
      obtain ⟨a, _, rfl, _, hd, _⟩ := dLook_ok (y := .int 0) (w := .int 0) h1 r1 rfl g
      refine ⟨a, rfl, hd, ρ1, σd, D1, sr.up u1, h1, ?_⟩
      cases e2 : my σd D1 with
      | bad => rw [e2] at p; exact p.elim
      | ok y D2 =>
        rw [e2] at p
        intro ρ2 H2 w u2 h2 r2
        refine ⟨ρ2, σd, D2, sr.up (u1.trans u2), h2, ?_⟩
        dsimp only at p
        cases e3 : mx σd D2 with
        | bad => rw [e3] at p; exact p.elim
        | ok z D3 =>
          rw [e3] at p
          intro ρ3 H3 z' u3 h3 r3
          dsimp only at p
          split at p
          · rename_i d g2
            split at p
            · rename_i D4 g3
              obtain ⟨b, qs, k, e, hb, rfl, hk, f1, f2, u4, h4⟩ := dSetd_ok h3 (r1.up (u2.trans u3)) (r2.up u3) r3 g3 g2
              cases e
              obtain ⟨z2, f3, f4⟩ := f1 d rfl
              refine ⟨qs, k, hb, rfl, hk, fun v' e => ?_, fun e => ?_⟩
              · rw [f3] at e; cases e
                exact p ρ3 H3 _ (u1.trans (u2.trans u3)) h3 f4
              · rw [f3] at e; cases e
            · exact p.elim
          · rename_i g2
            split at p
            · rename_i D4 g3
              obtain ⟨b, qs, k, e, hb, rfl, hk, f1, f2, u4, h4⟩ := dSetd_ok h3 (r1.up (u2.trans u3)) (r2.up u3) r3 g3 g2
              cases e
              refine ⟨qs, k, hb, rfl, hk, fun v' e => ?_, fun e => ?_⟩
              · rw [f2 rfl] at e; cases e
              · exact p ρ3 _ _ (u1.trans (u2.trans (u3.trans u4))) h4 (r3.up u4)
            · exact p.elim
          · exact p.elim
    · exact p.elim
end
end FH

namespace FH
open PySem PySem.Spec PyProof.Rows L2

theorem Cn.blk {T : Tb} {k : Nat} {X : Cx} (c : Cn T k X) (s : Shared) (H : Hp) (scope : Scope) (env : Env) (fp : List Addr) : Cn T k (X.blk s H scope env fp) :=
  ⟨c.P, c.w, c.K, c.mg, c.base, c.calm, c.nd, c.room, rfl⟩

/-! ### slots wiped -/
def wipeD (σ : DL) : List Nat → DL
  | [] => σ
  | v :: vs => (wipeD σ vs).set v none
theorem SR.wipe {T : Tb} {ρ : List Addr} {H : Hp} {σd : DL} {σ : L2.St} (h : SR T ρ H σd σ) : ∀ vs, SR T ρ H (wipeD σd vs) (L2.wipe σ vs)
  | [] => h
  | v :: vs => by
    rw [wipe.eq_2]
    exact (SR.wipe h vs).set (d := none) (o := none) trivial v
theorem wipe_len (σ : L2.St) : ∀ vs, (L2.wipe σ vs).length = σ.length
  | [] => rfl
  | v :: vs => by rw [wipe.eq_2, List.length_set, wipe_len σ vs]
theorem wipe_in {σ σ' : L2.St} (hl : σ.length = σ'.length) {i : Nat} : ∀ {vs : List Nat}, i ∈ vs → (L2.wipe σ vs)[i]? = (L2.wipe σ' vs)[i]?
  | v :: vs, h => by
    rw [wipe.eq_2, wipe.eq_2]
    by_cases e : v = i
    · subst e
      rw [List.getElem?_set_self', List.getElem?_set_self']
      have : (L2.wipe σ vs)[v]?.isSome = (L2.wipe σ' vs)[v]?.isSome := by
        rw [Bool.eq_iff_iff]
        simp [wipe_len, hl]
      cases h1 : (L2.wipe σ vs)[v]? <;> cases h2 : (L2.wipe σ' vs)[v]? <;> rw [h1, h2] at this <;> first | rfl | cases this
    · rw [List.getElem?_set_ne e, List.getElem?_set_ne e]
      exact wipe_in hl ((List.mem_cons.mp h).resolve_left (fun z => e z.symm))
theorem wipe_agree {is vs : List Nat} {σ σ' : L2.St} (a : Agree is (L2.wipe σ vs) σ') (h : ∀ i ∈ is, i ∈ vs) : L2.wipe σ' vs = L2.wipe σ vs := by
  have hl : σ'.length = σ.length := a.1.trans (wipe_len σ vs)
  refine List.ext_getElem? fun i => ?_
  by_cases hi : i ∈ vs
  · exact wipe_in hl hi
  · rw [wipe_out hi, a.2 i fun z => hi (h i z)]
/-- all of is in vs -/
def subL : List Nat → List Nat → Bool
  | [], _ => true
  | i :: r, vs => cond (hasN i vs) (subL r vs) false
where hasN : Nat → List Nat → Bool
  | _, [] => false
  | i, v :: vs => cond (Nat.beq i v) true (hasN i vs)
theorem hasN_ok {i : Nat} : ∀ {vs : List Nat}, subL.hasN i vs = true → i ∈ vs
  | v :: vs, h => by
    unfold subL.hasN at h
    cases e : Nat.beq i v with
    | true => rw [Nat.eq_of_beq_eq_true e]; exact List.mem_cons_self
    | false => rw [e] at h; exact List.mem_cons_of_mem _ (hasN_ok h)
theorem subL_ok : ∀ {is vs : List Nat}, subL is vs = true → ∀ i ∈ is, i ∈ vs
  | j :: r, vs, h, i, hi => by
    unfold subL at h
    cases e : subL.hasN j vs with
    | true =>
      rw [e] at h
      rcases List.mem_cons.mp hi with rfl | hi
      · exact hasN_ok e
      · exact subL_ok h i hi
    | false => rw [e] at h; cases h

/-! ### [e for t in s if c] -/
def appD (D : DH) (l : Nat) (y : DV) : Option DH := match D.get l with
  | some (.lst false acc) => cond (lineLt acc.length) (some (D.put l (.lst false (acc ++ [y])))) none
  | _ => none
theorem appD_ok {T : Tb} {ρ : List Addr} {H : Hp} {D D' : DH} (h : HR T ρ D H) {l : Nat} {a : Addr} (hl : ρ[l]? = some a) {y : DV} {w : V} (r : VR T ρ H y w) (e : appD D l y = some D') :
    ∃ acc, H a = some (.lst acc) ∧ acc.length < sizeLine ∧ Up ρ H ρ (upd H a (.lst (acc ++ [w]))) ∧ HR T ρ D' (upd H a (.lst (acc ++ [w]))) := by
  unfold appD at e
  split at e
  · rename_i acc g
    obtain ⟨c, e⟩ := cond_some e
    obtain rfl := Option.some.inj e
    obtain ⟨b, eb, _, vs, rv, hd⟩ := h.at (v := .ref a) ⟨a, hl, rfl⟩ g
    obtain rfl : a = b := by cases eb; rfl
    have u1 : Up ρ H ρ (upd H a (.lst (vs ++ [w]))) := up_put hd trivial (fun _ z => by cases z)
    exact ⟨vs, hd, by rw [rv.len]; exact lineLt_ok c, u1, h.put hl hd trivial (fun _ z => by cases z) ⟨_, VRs.app (rv.up u1) ⟨w, [], rfl, r.up u1, rfl⟩, upd_same⟩⟩
  · cases e
def loopL (g : MG) (t : MT) (m : ME) (σ : DL) (src : Src) (l : Nat) : Nat → Nat → DH → R DV
  | 0, _, _ => .bad
  | f + 1, i, D => (match src.item D i with
    | none => .bad
    | some none => .ok (.loc l) D
    | some (some d) => (match g d σ D with
      | .bad => .bad
      | .ok σ1 D1 => (match t σ1 D1 with
        | .bad => .bad
        | .ok false D2 => loopL g t m σ src l f (Nat.succ i) D2
        | .ok true D2 => (match m σ1 D2 with
          | .bad => .bad
          | .ok y D3 => (match appD D3 l y with
            | none => .bad
            | some D4 => loopL g t m σ src l f (Nat.succ i) D4)))))
def mLc (mi : MI) (g : MG) (t : MT) (m : ME) (vs : List Nat) : ME := fun σ D => match mi σ D with
  | .ok src D1 => cond (Nat.blt D1.n bigN) (loopL g t m (wipeD σ vs) src D1.n (Nat.succ (src.len D1)) 0 (D1.add (.lst false []))) .bad
  | .bad => .bad
def tYesM : MT := fun _ D => .ok true D
theorem PTsw {X : Cx} {e : List Expr} {t t' : TT} (h : PTs X e t) (w : ∀ σ H Q, t' σ H Q → t σ H Q) : PTs X e t' := ⟨fun pins s σ H Q I q => h.run pins s σ H Q I (w σ H Q q)⟩
theorem tsx_nil {T : Tb} {X : Cx} : PTs X [] (rT T tYesM) := PTsw pts_nil fun σ H Q ⟨ρ, σd, D, sr, hr, p⟩ => p ρ H (Up.refl _ _) hr
theorem tsx_one {T : Tb} {X : Cx} {c : Expr} {t : MT} (h : PT X c (rT T t)) : PTs X [c] (rT T t) := pts_one h
theorem at_new {ρ : List Addr} {D : DH} {q : Addr} (h : ρ.length = D.n) : (ρ ++ [q])[D.n]? = some q := by
  rw [← h, List.getElem?_append_right (Nat.le_refl _)]
  simp
section
variable {T : Tb} {k : Nat} {X : Cx} {elt tg iter tg1 iter1 : Expr} {ifs ifs1 : List Expr} {scope : Scope} {own : List (Str × Nat)} {pos spos py : Pos} {mi mi1 : MI} {g g1 : MG} {t t1 : MT} {m : ME} {is js vs vs1 : List Nat}
theorem lc_read {σ : L2.St} {H : Hp} {Q : VK} (hs : subL is vs = true) (q : rE T (mLc mi g t m vs) σ H Q) : tLc (rI T mi) (rG T is g) (rT T t) (rE T m) vs σ H Q := by
  obtain ⟨ρ0, σd, D0, sr, hr, p⟩ := q
  refine ⟨ρ0, σd, D0, sr, hr, ?_⟩
  unfold mLc at p
  cases e1 : mi σd D0 with
  | bad => rw [e1] at p; exact p.elim
  | ok src D1 =>
    rw [e1] at p
    intro ρ1 H1 J u1 h1 it Dl hD
    obtain ⟨c0, p⟩ := cond_ok p
    have p := pE.up u1 p
    have sr := sr.up u1
    have hn : D1.n < bigN := blt_lt c0
    have h2 : HR T (ρ1 ++ [Dl]) (D1.add (.lst false [])) (upd H1 Dl (.lst [])) := h1.add hn hD ⟨[], rfl, upd_same⟩
    have u2 : Up ρ1 H1 (ρ1 ++ [Dl]) (upd H1 Dl (.lst [])) := up_add hD
    have hl : (ρ1 ++ [Dl])[D1.n]? = some Dl := at_new h1.len
    refine ⟨fun i n H => ∃ ρ D, Up (ρ1 ++ [Dl]) (upd H1 Dl (.lst [])) ρ H ∧ HR T ρ D H ∧ pE T ρ H (loopL g t m (wipeD σd vs) src D1.n n i D) Q, ⟨_, _, _, Up.refl _ _, h2, pE.up u2 p⟩, ?_⟩
    rintro i n H ⟨ρ, D, u, h, p⟩
    cases n with
    | zero => exact p.elim
    | succ n =>
      have p : pE T ρ H (match src.item D i with
        | none => .bad
        | some none => .ok (.loc D1.n) D
        | some (some d) => (match g d (wipeD σd vs) D with
          | .bad => .bad
          | .ok σ1 D2 => (match t σ1 D2 with
            | .bad => .bad
            | .ok false D3 => loopL g t m (wipeD σd vs) src D1.n n (Nat.succ i) D3
            | .ok true D3 => (match m σ1 D3 with
              | .bad => .bad
              | .ok y D4 => (match appD D4 D1.n y with
                | none => .bad
                | some D5 => loopL g t m (wipeD σd vs) src D1.n n (Nat.succ i) D5))))) Q := p
      have z := it ρ D H (u2.trans u) h i
      cases e2 : src.item D i with
      | none => rw [e2] at p; exact p.elim
      | some o =>
        rw [e2] at p z
        cases o with
        | none => exact .inl ⟨z, pE_ok h (d := .loc D1.n) ⟨Dl, u.at hl, rfl⟩ p⟩
        | some d =>
          obtain ⟨go, yl⟩ := z
          refine .inr ⟨go, fun H' => ∃ ρ D, Up (ρ1 ++ [Dl]) (upd H1 Dl (.lst [])) ρ H' ∧ HR T ρ D H' ∧ pE T ρ H' (loopL g t m (wipeD σd vs) src D1.n n (i + 1) D) Q, fun H' w => ⟨n, Nat.lt_succ_self n, w⟩, fun x H' y => ?_⟩
          obtain ⟨u3, h3, r3⟩ := yl x H' y
          have uu := u2.trans (u.trans u3)
          refine ⟨ρ, wipeD σd vs, D, d, (sr.up uu).wipe vs, h3, r3, ?_⟩
          dsimp only at p
          cases e3 : g d (wipeD σd vs) D with
          | bad => rw [e3] at p; exact p.elim
          | ok σ1 D2 =>
            rw [e3] at p
            intro ρ4 H4 σ2 u4 h4 s4 ag
            refine ⟨wipe_agree ag (subL_ok hs), ρ4, σ1, D2, s4, h4, ?_⟩
            dsimp only at p
            cases e4 : t σ1 D2 with
            | bad => rw [e4] at p; exact p.elim
            | ok b D3 =>
              rw [e4] at p
              cases b with
              | false => exact fun ρ5 H5 u5 h5 => iteF ⟨ρ5, D3, u.trans (u3.trans (u4.trans u5)), h5, pE.up (u3.trans (u4.trans u5)) p⟩
              | true =>
                intro ρ5 H5 u5 h5
                refine iteT ⟨ρ5, σ1, D3, s4.up u5, h5, ?_⟩
                dsimp only at p
                cases e5 : m σ1 D3 with
                | bad => rw [e5] at p; exact p.elim
                | ok y D4 =>
                  rw [e5] at p
                  intro ρ6 H6 w u6 h6 r6
                  dsimp only at p
                  cases e6 : appD D4 D1.n y with
                  | none => rw [e6] at p; exact p.elim
                  | some D5 =>
                    rw [e6] at p
                    have ul := u.trans (u3.trans (u4.trans (u5.trans u6)))
                    obtain ⟨acc, a1, a2, u7, h7⟩ := appD_ok h6 (ul.at hl) r6 e6
                    exact ⟨acc, a1, a2, ρ6, D5, ul.trans u7, h7, pE.up (u3.trans (u4.trans (u5.trans (u6.trans u7)))) p⟩
theorem ex_lc (c : Cn T k X) (own : List (Str × Nat)) (hi : PI X tg iter (rI T mi)) (ok : BlkOk X.N X.env.scope scope own)
    (hg : ∀ (s : Shared) (H : Hp) (C : Addr) (cl : List (Str × Addr)) (fp : List Addr), PG (X.blk s H scope (compEnvC scope cl C X.env) fp) tg (rG T is g))
    (ht : ∀ (s : Shared) (H : Hp) (C : Addr) (cl : List (Str × Addr)) (fp : List Addr), PTs (X.blk s H scope (compEnvC scope cl C X.env) fp) ifs (rT T t))
    (he : ∀ (s : Shared) (H : Hp) (C : Addr) (cl : List (Str × Addr)) (fp : List Addr), PE (X.blk s H scope (compEnvC scope cl C X.env) fp) elt (rE T m))
    (hv : own.map (·.2) = vs := by rfl) (hs : subL is vs = true := by rfl) (hf : ∀ x : Value, foldedSetIterable iter X.env x = pure x := by intro _; rfl) :
    PE X (.ListComp elt [⟨tg, iter, ifs, 0⟩] scope pos) (rE T (mLc mi g t m vs)) :=
  PEw (pe_lc c.calm c.nd hi ok hg ht he hf) fun σ H Q q => by
    have e : List.map (fun x => x.2) own = vs := hv
    rw [e]
    exact lc_read hs q
theorem sx_setLc (c : Cn T k X) (own : List (Str × Nat)) (i : Nat) {y : Str} (hi : PI X tg iter (rI T mi)) (ok : BlkOk X.N X.env.scope scope own)
    (hg : ∀ (s : Shared) (H : Hp) (C : Addr) (cl : List (Str × Addr)) (fp : List Addr), PG (X.blk s H scope (compEnvC scope cl C X.env) fp) tg (rG T is g))
    (ht : ∀ (s : Shared) (H : Hp) (C : Addr) (cl : List (Str × Addr)) (fp : List Addr), PTs (X.blk s H scope (compEnvC scope cl C X.env) fp) ifs (rT T t))
    (he : ∀ (s : Shared) (H : Hp) (C : Addr) (cl : List (Str × Addr)) (fp : List Addr), PE (X.blk s H scope (compEnvC scope cl C X.env) fp) elt (rE T m))
    (hsw : swapsWith (.ListComp elt [⟨tg, iter, ifs, 0⟩] scope pos) (some (.Name y py)) spos.line X.env = pure true)
    (hy : X.N[i]? = some y := by rfl) (hyl : X.env.scope.names.lookup y = some .local := by rfl)
    (hv : own.map (·.2) = vs := by rfl) (hs : subL is vs = true := by rfl) (hf : ∀ x : Value, foldedSetIterable iter X.env x = pure x := by intro _; rfl) :
    PS X (.Assign [.Name y py] (.ListComp elt [⟨tg, iter, ifs, 0⟩] scope pos) spos) (rS T (sSet i (mLc mi g t m vs))) :=
  PSw (ps_setLc c.calm c.nd hy hyl hsw hi ok hg ht he hf) fun E σ H ⟨ρ, σd, D, sr, hr, p⟩ => by
    have e : List.map (fun x => x.2) own = vs := hv
    rw [e]
    refine lc_read hs (rE_then (f := fun d D1 => .nx (σd.set i (some d)) D1) sr hr p fun d D1 p ρ' H' v u h r => p ρ' H' _ u h ((sr.up u).set (d := some d) (o := some v) (OR.mk r) i))

/-! ### two clauses -/
def loopI (g1 : MG) (t1 : MT) (m : ME) (σ : DL) (src : Src) (l : Nat) : Nat → Nat → DH → R Unit
  | 0, _, _ => .bad
  | f + 1, i, D => (match src.item D i with
    | none => .bad
    | some none => .ok () D
    | some (some d) => (match g1 d σ D with
      | .bad => .bad
      | .ok σ1 D1 => (match t1 σ1 D1 with
        | .bad => .bad
        | .ok false D2 => loopI g1 t1 m σ src l f (Nat.succ i) D2
        | .ok true D2 => (match m σ1 D2 with
          | .bad => .bad
          | .ok y D3 => (match appD D3 l y with
            | none => .bad
            | some D4 => loopI g1 t1 m σ src l f (Nat.succ i) D4)))))
def loopO (g : MG) (t : MT) (mi1 : MI) (g1 : MG) (t1 : MT) (m : ME) (vs1 : List Nat) (σ : DL) (src : Src) (l : Nat) : Nat → Nat → DH → R DV
  | 0, _, _ => .bad
  | f + 1, i, D => (match src.item D i with
    | none => .bad
    | some none => .ok (.loc l) D
    | some (some d) => (match g d σ D with
      | .bad => .bad
      | .ok σ1 D1 => (match t σ1 D1 with
        | .bad => .bad
        | .ok false D2 => loopO g t mi1 g1 t1 m vs1 σ src l f (Nat.succ i) D2
        | .ok true D2 => (match mi1 σ1 D2 with
          | .bad => .bad
          | .ok src1 D3 => (match loopI g1 t1 m (wipeD σ1 vs1) src1 l (Nat.succ (src1.len D3)) 0 D3 with
            | .bad => .bad
            | .ok _ D4 => loopO g t mi1 g1 t1 m vs1 σ src l f (Nat.succ i) D4)))))
def mLc2 (mi : MI) (g : MG) (t : MT) (mi1 : MI) (g1 : MG) (t1 : MT) (m : ME) (vs vs1 : List Nat) : ME := fun σ D => match mi σ D with
  | .ok src D1 => cond (Nat.blt D1.n bigN) (loopO g t mi1 g1 t1 m vs1 (wipeD σ vs) src D1.n (Nat.succ (src.len D1)) 0 (D1.add (.lst false []))) .bad
  | .bad => .bad
/-- behind the inner loop: the outer one's next turn -/
def pU (T : Tb) (ρ : List Addr) (H : Hp) (r : R Unit) (Q : List Addr → DH → Hp → Prop) : Prop := match r with
  | .ok _ D => ∀ ρ' H', Up ρ H ρ' H' → HR T ρ' D H' → Q ρ' D H'
  | .bad => False
theorem pU.up {T : Tb} {ρ ρ1 : List Addr} {H H1 : Hp} {r : R Unit} {Q : List Addr → DH → Hp → Prop} (u : Up ρ H ρ1 H1) (h : pU T ρ H r Q) : pU T ρ1 H1 r Q := by
  cases r with
  | bad => exact h
  | ok d D => exact fun ρ' H' u' => h ρ' H' (u.trans u')
theorem lc2_read {σ : L2.St} {H : Hp} {Q : VK} (hs : subL is vs = true) (hs1 : subL js vs1 = true) (q : rE T (mLc2 mi g t mi1 g1 t1 m vs vs1) σ H Q) : tLc2 (rI T mi) (rG T is g) (rT T t) (rI T mi1) (rG T js g1) (rT T t1) (rE T m) vs vs1 σ H Q := by
  obtain ⟨ρ0, σd, D0, sr, hr, p⟩ := q
  refine ⟨ρ0, σd, D0, sr, hr, ?_⟩
  unfold mLc2 at p
  cases e1 : mi σd D0 with
  | bad => rw [e1] at p; exact p.elim
  | ok src D1 =>
    rw [e1] at p
    intro ρ1 H1 J u1 h1 it Dl hD
    obtain ⟨c0, p⟩ := cond_ok p
    have p := pE.up u1 p
    have sr := sr.up u1
    have hn : D1.n < bigN := blt_lt c0
    have h2 : HR T (ρ1 ++ [Dl]) (D1.add (.lst false [])) (upd H1 Dl (.lst [])) := h1.add hn hD ⟨[], rfl, upd_same⟩
    have u2 : Up ρ1 H1 (ρ1 ++ [Dl]) (upd H1 Dl (.lst [])) := up_add hD
    have hl : (ρ1 ++ [Dl])[D1.n]? = some Dl := at_new h1.len
    refine ⟨fun i n H => ∃ ρ D, Up (ρ1 ++ [Dl]) (upd H1 Dl (.lst [])) ρ H ∧ HR T ρ D H ∧ pE T ρ H (loopO g t mi1 g1 t1 m vs1 (wipeD σd vs) src D1.n n i D) Q, ⟨_, _, _, Up.refl _ _, h2, pE.up u2 p⟩, ?_⟩
    rintro i n H ⟨ρ, D, u, h, p⟩
    cases n with
    | zero => exact p.elim
    | succ n =>
      have p : pE T ρ H (match src.item D i with
        | none => .bad
        | some none => .ok (.loc D1.n) D
        | some (some d) => (match g d (wipeD σd vs) D with
          | .bad => .bad
          | .ok σ1 D2 => (match t σ1 D2 with
            | .bad => .bad
            | .ok false D3 => loopO g t mi1 g1 t1 m vs1 (wipeD σd vs) src D1.n n (Nat.succ i) D3
            | .ok true D3 => (match mi1 σ1 D3 with
              | .bad => .bad
              | .ok src1 D4 => (match loopI g1 t1 m (wipeD σ1 vs1) src1 D1.n (Nat.succ (src1.len D4)) 0 D4 with
                | .bad => .bad
                | .ok _ D5 => loopO g t mi1 g1 t1 m vs1 (wipeD σd vs) src D1.n n (Nat.succ i) D5))))) Q := p
      have z := it ρ D H (u2.trans u) h i
      cases e2 : src.item D i with
      | none => rw [e2] at p; exact p.elim
      | some o =>
        rw [e2] at p z
        cases o with
        | none => exact .inl ⟨z, pE_ok h (d := .loc D1.n) ⟨Dl, u.at hl, rfl⟩ p⟩
        | some d =>
          obtain ⟨go, yl⟩ := z
          refine .inr ⟨go, fun H' => ∃ ρ D, Up (ρ1 ++ [Dl]) (upd H1 Dl (.lst [])) ρ H' ∧ HR T ρ D H' ∧ pE T ρ H' (loopO g t mi1 g1 t1 m vs1 (wipeD σd vs) src D1.n n (i + 1) D) Q, fun H' w => ⟨n, Nat.lt_succ_self n, w⟩, fun x H' y => ?_⟩
          obtain ⟨u3, h3, r3⟩ := yl x H' y
          have uu := u2.trans (u.trans u3)
          refine ⟨ρ, wipeD σd vs, D, d, (sr.up uu).wipe vs, h3, r3, ?_⟩
          dsimp only at p
          cases e3 : g d (wipeD σd vs) D with
          | bad => rw [e3] at p; exact p.elim
          | ok σ1 D2 =>
            rw [e3] at p
            intro ρ4 H4 σ2 u4 h4 s4 ag
            refine ⟨wipe_agree ag (subL_ok hs), ρ4, σ1, D2, s4, h4, ?_⟩
            dsimp only at p
            cases e4 : t σ1 D2 with
            | bad => rw [e4] at p; exact p.elim
            | ok b D3 =>
              rw [e4] at p
              cases b with
              | false => exact fun ρ5 H5 u5 h5 => iteF ⟨ρ5, D3, u.trans (u3.trans (u4.trans u5)), h5, pE.up (u3.trans (u4.trans u5)) p⟩
              | true =>
                intro ρ5 H5 u5 h5
                refine iteT ⟨ρ5, σ1, D3, s4.up u5, h5, ?_⟩
                dsimp only at p
                cases e5 : mi1 σ1 D3 with
                | bad => rw [e5] at p; exact p.elim
                | ok src1 D4 =>
                  rw [e5] at p
                  intro ρ6 H6 J1 u6 h6 it1
                  have ul := u.trans (u3.trans (u4.trans (u5.trans u6)))
                  have s6 := s4.up (u5.trans u6)
                  have p : pU T ρ6 H6 (loopI g1 t1 m (wipeD σ1 vs1) src1 D1.n (Nat.succ (src1.len D4)) 0 D4) (fun ρ' D' H' => pE T ρ' H' (loopO g t mi1 g1 t1 m vs1 (wipeD σd vs) src D1.n n (i + 1) D') Q) := by
                    dsimp only at p
                    cases e6 : loopI g1 t1 m (wipeD σ1 vs1) src1 D1.n (Nat.succ (src1.len D4)) 0 D4 with
                    | bad => rw [e6] at p; exact p.elim
                    | ok _ D5 =>
                      rw [e6] at p
                      exact fun ρ' H' u' h' => pE.up (u3.trans (u4.trans (u5.trans (u6.trans u')))) p
                  refine ⟨fun j n' H => ∃ ρ D, Up ρ6 H6 ρ H ∧ HR T ρ D H ∧ pU T ρ H (loopI g1 t1 m (wipeD σ1 vs1) src1 D1.n n' j D) (fun ρ' D' H' => pE T ρ' H' (loopO g t mi1 g1 t1 m vs1 (wipeD σd vs) src D1.n n (i + 1) D') Q), ⟨_, _, _, Up.refl _ _, h6, p⟩, ?_⟩
                  rintro j n' H7 ⟨ρ7, D7, u7, h7, p⟩
                  cases n' with
                  | zero => exact p.elim
                  | succ n' =>
                    have p : pU T ρ7 H7 (match src1.item D7 j with
                      | none => .bad
                      | some none => .ok () D7
                      | some (some d) => (match g1 d (wipeD σ1 vs1) D7 with
                        | .bad => .bad
                        | .ok σ1' D1' => (match t1 σ1' D1' with
                          | .bad => .bad
                          | .ok false D2 => loopI g1 t1 m (wipeD σ1 vs1) src1 D1.n n' (Nat.succ j) D2
                          | .ok true D2 => (match m σ1' D2 with
                            | .bad => .bad
                            | .ok y D3 => (match appD D3 D1.n y with
                              | none => .bad
                              | some D4 => loopI g1 t1 m (wipeD σ1 vs1) src1 D1.n n' (Nat.succ j) D4))))) _ := p
                    have z := it1 ρ7 D7 H7 u7 h7 j
                    cases e7 : src1.item D7 j with
                    | none => rw [e7] at p; exact p.elim
                    | some o =>
                      rw [e7] at p z
                      cases o with
                      | none => exact .inl ⟨z, ρ7, D7, ul.trans u7, h7, p ρ7 H7 (Up.refl _ _) h7⟩
                      | some d1 =>
                        obtain ⟨go1, yl1⟩ := z
                        refine .inr ⟨go1, fun H' => ∃ ρ D, Up ρ6 H6 ρ H' ∧ HR T ρ D H' ∧ pU T ρ H' (loopI g1 t1 m (wipeD σ1 vs1) src1 D1.n n' (j + 1) D) (fun ρ' D' H' => pE T ρ' H' (loopO g t mi1 g1 t1 m vs1 (wipeD σd vs) src D1.n n (i + 1) D') Q), fun H' w => ⟨n', Nat.lt_succ_self n', w⟩, fun x1 H8 y1 => ?_⟩
                        obtain ⟨u8, h8, r8⟩ := yl1 x1 H8 y1
                        refine ⟨ρ7, wipeD σ1 vs1, D7, d1, (s6.up (u7.trans u8)).wipe vs1, h8, r8, ?_⟩
                        dsimp only at p
                        cases e8 : g1 d1 (wipeD σ1 vs1) D7 with
                        | bad => rw [e8] at p; exact p.elim
                        | ok σ9 D9 =>
                          rw [e8] at p
                          intro ρ9 H9 σ9' u9 h9 s9 ag1
                          refine ⟨wipe_agree ag1 (subL_ok hs1), ρ9, σ9, D9, s9, h9, ?_⟩
                          dsimp only at p
                          cases e9 : t1 σ9 D9 with
                          | bad => rw [e9] at p; exact p.elim
                          | ok b D10 =>
                            rw [e9] at p
                            cases b with
                            | false => exact fun ρ5 H5 u5 h5 => iteF ⟨ρ5, D10, u7.trans (u8.trans (u9.trans u5)), h5, pU.up (u8.trans (u9.trans u5)) p⟩
                            | true =>
                              intro ρa Ha ua ha
                              refine iteT ⟨ρa, σ9, D10, s9.up ua, ha, ?_⟩
                              dsimp only at p
                              cases e10 : m σ9 D10 with
                              | bad => rw [e10] at p; exact p.elim
                              | ok y D11 =>
                                rw [e10] at p
                                intro ρb Hb w ub hb rb
                                dsimp only at p
                                cases e11 : appD D11 D1.n y with
                                | none => rw [e11] at p; exact p.elim
                                | some D12 =>
                                  rw [e11] at p
                                  have ull := ul.trans (u7.trans (u8.trans (u9.trans (ua.trans ub))))
                                  obtain ⟨acc, a1, a2, uc, hc⟩ := appD_ok hb (ull.at hl) rb e11
                                  exact ⟨acc, a1, a2, ρb, D12, u7.trans (u8.trans (u9.trans (ua.trans (ub.trans uc)))), hc, pU.up (u8.trans (u9.trans (ua.trans (ub.trans uc)))) p⟩
theorem ex_lc2 (c : Cn T k X) (own : List (Str × Nat)) (hi : PI X tg iter (rI T mi)) (ok : BlkOk X.N X.env.scope scope own)
    (hg : ∀ (s : Shared) (H : Hp) (C : Addr) (cl : List (Str × Addr)) (fp : List Addr), PG (X.blk s H scope (compEnvC scope cl C X.env) fp) tg (rG T is g))
    (ht : ∀ (s : Shared) (H : Hp) (C : Addr) (cl : List (Str × Addr)) (fp : List Addr), PTs (X.blk s H scope (compEnvC scope cl C X.env) fp) ifs (rT T t))
    (hi1 : ∀ (s : Shared) (H : Hp) (C : Addr) (cl : List (Str × Addr)) (fp : List Addr), PI (X.blk s H scope (compEnvC scope cl C X.env) fp) tg1 iter1 (rI T mi1))
    (hg1 : ∀ (s : Shared) (H : Hp) (C : Addr) (cl : List (Str × Addr)) (fp : List Addr), PG (X.blk s H scope (compEnvC scope cl C X.env) fp) tg1 (rG T js g1))
    (ht1 : ∀ (s : Shared) (H : Hp) (C : Addr) (cl : List (Str × Addr)) (fp : List Addr), PTs (X.blk s H scope (compEnvC scope cl C X.env) fp) ifs1 (rT T t1))
    (he : ∀ (s : Shared) (H : Hp) (C : Addr) (cl : List (Str × Addr)) (fp : List Addr), PE (X.blk s H scope (compEnvC scope cl C X.env) fp) elt (rE T m))
    (hv : own.map (·.2) = vs := by rfl) (hs : subL is vs = true := by rfl) (hs1 : subL js vs1 = true := by rfl) (hs2 : subL vs1 vs = true := by rfl)
    (hf : ∀ x : Value, foldedSetIterable iter X.env x = pure x := by intro _; rfl) (hf1 : ∀ (env : Env) (x : Value), foldedSetIterable iter1 env x = pure x := by intro _ _; rfl) :
    PE X (.ListComp elt [⟨tg, iter, ifs, 0⟩, ⟨tg1, iter1, ifs1, 0⟩] scope pos) (rE T (mLc2 mi g t mi1 g1 t1 m vs vs1)) :=
  PEw (pe_lc2 c.calm c.nd hi ok (by rw [show List.map (fun x => x.2) own = vs from hv]; exact subL_ok hs2) hg ht hi1 hg1 ht1 he hf hf1) fun σ H Q q => by
    have e : List.map (fun x => x.2) own = vs := hv
    rw [e]
    exact lc2_read hs hs1 q
theorem sx_setLc2 (c : Cn T k X) (own : List (Str × Nat)) (i : Nat) {y : Str} (hi : PI X tg iter (rI T mi)) (ok : BlkOk X.N X.env.scope scope own)
    (hg : ∀ (s : Shared) (H : Hp) (C : Addr) (cl : List (Str × Addr)) (fp : List Addr), PG (X.blk s H scope (compEnvC scope cl C X.env) fp) tg (rG T is g))
    (ht : ∀ (s : Shared) (H : Hp) (C : Addr) (cl : List (Str × Addr)) (fp : List Addr), PTs (X.blk s H scope (compEnvC scope cl C X.env) fp) ifs (rT T t))
    (hi1 : ∀ (s : Shared) (H : Hp) (C : Addr) (cl : List (Str × Addr)) (fp : List Addr), PI (X.blk s H scope (compEnvC scope cl C X.env) fp) tg1 iter1 (rI T mi1))
    (hg1 : ∀ (s : Shared) (H : Hp) (C : Addr) (cl : List (Str × Addr)) (fp : List Addr), PG (X.blk s H scope (compEnvC scope cl C X.env) fp) tg1 (rG T js g1))
    (ht1 : ∀ (s : Shared) (H : Hp) (C : Addr) (cl : List (Str × Addr)) (fp : List Addr), PTs (X.blk s H scope (compEnvC scope cl C X.env) fp) ifs1 (rT T t1))
    (he : ∀ (s : Shared) (H : Hp) (C : Addr) (cl : List (Str × Addr)) (fp : List Addr), PE (X.blk s H scope (compEnvC scope cl C X.env) fp) elt (rE T m))
    (hsw : swapsWith (.ListComp elt [⟨tg, iter, ifs, 0⟩, ⟨tg1, iter1, ifs1, 0⟩] scope pos) (some (.Name y py)) spos.line X.env = pure true)
    (hy : X.N[i]? = some y := by rfl) (hyl : X.env.scope.names.lookup y = some .local := by rfl)
    (hv : own.map (·.2) = vs := by rfl) (hs : subL is vs = true := by rfl) (hs1 : subL js vs1 = true := by rfl) (hs2 : subL vs1 vs = true := by rfl)
    (hf : ∀ x : Value, foldedSetIterable iter X.env x = pure x := by intro _; rfl) (hf1 : ∀ (env : Env) (x : Value), foldedSetIterable iter1 env x = pure x := by intro _ _; rfl) :
    PS X (.Assign [.Name y py] (.ListComp elt [⟨tg, iter, ifs, 0⟩, ⟨tg1, iter1, ifs1, 0⟩] scope pos) spos) (rS T (sSet i (mLc2 mi g t mi1 g1 t1 m vs vs1))) :=
  PSw (ps_setLc2 c.calm c.nd hy hyl hsw hi ok (by rw [show List.map (fun x => x.2) own = vs from hv]; exact subL_ok hs2) hg ht hi1 hg1 ht1 he hf hf1) fun E σ H ⟨ρ, σd, D, sr, hr, p⟩ => by
    have e : List.map (fun x => x.2) own = vs := hv
    rw [e]
    refine lc2_read hs hs1 (rE_then (f := fun d D1 => .nx (σd.set i (some d)) D1) sr hr p fun d D1 p ρ' H' v u h r => p ρ' H' _ u h ((sr.up u).set (d := some d) (o := some v) (OR.mk r) i))
end
end FH

namespace FH
open PySem PySem.Spec PyProof.Rows L2

/-! ### {k: v for t in s if c} -/
def loopD (g : MG) (t : MT) (mk mv : ME) (σ : DL) (src : Src) (l : Nat) : Nat → Nat → DH → R DV
  | 0, _, _ => .bad
  | f + 1, i, D => (match src.item D i with
    | none => .bad
    | some none => .ok (.loc l) D
    | some (some d) => (match g d σ D with
      | .bad => .bad
      | .ok σ1 D1 => (match t σ1 D1 with
        | .bad => .bad
        | .ok false D2 => loopD g t mk mv σ src l f (Nat.succ i) D2
        | .ok true D2 => (match mk σ1 D2 with
          | .bad => .bad
          | .ok y D3 => (match mv σ1 D3 with
            | .bad => .bad
            | .ok z D4 => (match dPut (.loc l) y z D4 with
              | none => .bad
              | some D5 => loopD g t mk mv σ src l f (Nat.succ i) D5))))))
def mDc (mi : MI) (g : MG) (t : MT) (mk mv : ME) (vs : List Nat) : ME := fun σ D => match mi σ D with
  | .ok src D1 => cond (Nat.blt D1.n bigN) (loopD g t mk mv (wipeD σ vs) src D1.n (Nat.succ (src.len D1)) 0 (D1.add (.dK false []))) .bad
  | .bad => .bad
theorem dPutK_ok {T : Tb} {ρ : List Addr} {H : Hp} {D D' : DH} (h : HR T ρ D H) {l : Nat} {a : Addr} (hl : ρ[l]? = some a) {y d : DV} {w u : V} (r2 : VR T ρ H y w) (r3 : VR T ρ H d u) (e : dPut (.loc l) y d D = some D') :
    ∃ kvs k, w = kV k ∧ H a = some (.dK kvs) ∧ kvs.length < sizeLine ∧ Up ρ H ρ (upd H a (.dK (putK kvs k u))) ∧ HR T ρ D' (upd H a (.dK (putK kvs k u))) := by
  have e : (match D.get l with
    | some (.dK false kvs) => cond (isKey y) (cond (lineLt kvs.length) (some (D.put l (.dK false (putD kvs y d)))) none) none
    | _ => none) = some D' := e
  split at e
  · rename_i kvs g
    obtain ⟨c, e⟩ := cond_some e
    obtain ⟨c2, e⟩ := cond_some e
    obtain rfl := Option.some.inj e
    obtain ⟨b, eb, _, ks, rk, hd⟩ := h.at (v := .ref a) ⟨a, hl, rfl⟩ g
    obtain rfl : a = b := by cases eb; rfl
    obtain ⟨k, rfl, hk⟩ := KR.of c r2
    have u1 : Up ρ H ρ (upd H a (.dK (putK ks k u))) := up_put hd trivial (fun _ z => by cases z)
    exact ⟨ks, k, rfl, hd, by rw [rk.len]; exact lineLt_ok c2, u1, h.put hl hd trivial (fun _ z => by cases z) ⟨_, KVR.put hk (r3.up u1) (rk.up u1), upd_same⟩⟩
  · cases e
section
variable {T : Tb} {k : Nat} {X : Cx} {kx vx tg iter : Expr} {ifs : List Expr} {scope : Scope} {own : List (Str × Nat)} {pos spos py : Pos} {mi : MI} {g : MG} {t : MT} {mk mv : ME} {is vs : List Nat}
theorem dc_read {σ : L2.St} {H : Hp} {Q : VK} (hs : subL is vs = true) (q : rE T (mDc mi g t mk mv vs) σ H Q) : tDc (rI T mi) (rG T is g) (rT T t) (rE T mk) (rE T mv) vs σ H Q := by
  obtain ⟨ρ0, σd, D0, sr, hr, p⟩ := q
  refine ⟨ρ0, σd, D0, sr, hr, ?_⟩
  unfold mDc at p
  cases e1 : mi σd D0 with
  | bad => rw [e1] at p; exact p.elim
  | ok src D1 =>
    rw [e1] at p
    intro ρ1 H1 J u1 h1 it Dl hD
    obtain ⟨c0, p⟩ := cond_ok p
    have p := pE.up u1 p
    have sr := sr.up u1
    have hn : D1.n < bigN := blt_lt c0
    have h2 : HR T (ρ1 ++ [Dl]) (D1.add (.dK false [])) (upd H1 Dl (.dK [])) := h1.add hn hD ⟨[], rfl, upd_same⟩
    have u2 : Up ρ1 H1 (ρ1 ++ [Dl]) (upd H1 Dl (.dK [])) := up_add hD
    have hl : (ρ1 ++ [Dl])[D1.n]? = some Dl := at_new h1.len
    refine ⟨fun i n H => ∃ ρ D, Up (ρ1 ++ [Dl]) (upd H1 Dl (.dK [])) ρ H ∧ HR T ρ D H ∧ pE T ρ H (loopD g t mk mv (wipeD σd vs) src D1.n n i D) Q, ⟨_, _, _, Up.refl _ _, h2, pE.up u2 p⟩, ?_⟩
    rintro i n H ⟨ρ, D, u, h, p⟩
    cases n with
    | zero => exact p.elim
    | succ n =>
      have p : pE T ρ H (match src.item D i with
        | none => .bad
        | some none => .ok (.loc D1.n) D
        | some (some d) => (match g d (wipeD σd vs) D with
          | .bad => .bad
          | .ok σ1 D2 => (match t σ1 D2 with
            | .bad => .bad
            | .ok false D3 => loopD g t mk mv (wipeD σd vs) src D1.n n (Nat.succ i) D3
            | .ok true D3 => (match mk σ1 D3 with
              | .bad => .bad
              | .ok y D4 => (match mv σ1 D4 with
                | .bad => .bad
                | .ok z D5 => (match dPut (.loc D1.n) y z D5 with
                  | none => .bad
                  | some D6 => loopD g t mk mv (wipeD σd vs) src D1.n n (Nat.succ i) D6)))))) Q := p
      have z := it ρ D H (u2.trans u) h i
      cases e2 : src.item D i with
      | none => rw [e2] at p; exact p.elim
      | some o =>
        rw [e2] at p z
        cases o with
        | none => exact .inl ⟨z, pE_ok h (d := .loc D1.n) ⟨Dl, u.at hl, rfl⟩ p⟩
        | some d =>
          obtain ⟨go, yl⟩ := z
          refine .inr ⟨go, fun H' => ∃ ρ D, Up (ρ1 ++ [Dl]) (upd H1 Dl (.dK [])) ρ H' ∧ HR T ρ D H' ∧ pE T ρ H' (loopD g t mk mv (wipeD σd vs) src D1.n n (i + 1) D) Q, fun H' w => ⟨n, Nat.lt_succ_self n, w⟩, fun x H' y => ?_⟩
          obtain ⟨u3, h3, r3⟩ := yl x H' y
          have uu := u2.trans (u.trans u3)
          refine ⟨ρ, wipeD σd vs, D, d, (sr.up uu).wipe vs, h3, r3, ?_⟩
          dsimp only at p
          cases e3 : g d (wipeD σd vs) D with
          | bad => rw [e3] at p; exact p.elim
          | ok σ1 D2 =>
            rw [e3] at p
            intro ρ4 H4 σ2 u4 h4 s4 ag
            refine ⟨wipe_agree ag (subL_ok hs), ρ4, σ1, D2, s4, h4, ?_⟩
            dsimp only at p
            cases e4 : t σ1 D2 with
            | bad => rw [e4] at p; exact p.elim
            | ok b D3 =>
              rw [e4] at p
              cases b with
              | false => exact fun ρ5 H5 u5 h5 => iteF ⟨ρ5, D3, u.trans (u3.trans (u4.trans u5)), h5, pE.up (u3.trans (u4.trans u5)) p⟩
              | true =>
                intro ρ5 H5 u5 h5
                refine iteT ⟨ρ5, σ1, D3, s4.up u5, h5, ?_⟩
                dsimp only at p
                cases e5 : mk σ1 D3 with
                | bad => rw [e5] at p; exact p.elim
                | ok y D4 =>
                  rw [e5] at p
                  intro ρ6 H6 w u6 h6 r6
                  refine ⟨ρ6, σ1, D4, s4.up (u5.trans u6), h6, ?_⟩
                  dsimp only at p
                  cases e6 : mv σ1 D4 with
                  | bad => rw [e6] at p; exact p.elim
                  | ok z D5 =>
                    rw [e6] at p
                    intro ρ7 H7 w' u7 h7 r7
                    dsimp only at p
                    cases e7 : dPut (.loc D1.n) y z D5 with
                    | none => rw [e7] at p; exact p.elim
                    | some D6 =>
                      rw [e7] at p
                      have ul := u.trans (u3.trans (u4.trans (u5.trans (u6.trans u7))))
                      obtain ⟨kvs, kk, rfl, a1, a2, u8, h8⟩ := dPutK_ok h7 (ul.at hl) (r6.up u7) r7 e7
                      exact ⟨kvs, kk, rfl, a1, a2, ρ7, D6, ul.trans u8, h8, pE.up (u3.trans (u4.trans (u5.trans (u6.trans (u7.trans u8))))) p⟩
theorem ex_dc (c : Cn T k X) (own : List (Str × Nat)) (hi : PI X tg iter (rI T mi)) (ok : BlkOk X.N X.env.scope scope own)
    (hg : ∀ (s : Shared) (H : Hp) (C : Addr) (cl : List (Str × Addr)) (fp : List Addr), PG (X.blk s H scope (compEnvC scope cl C X.env) fp) tg (rG T is g))
    (ht : ∀ (s : Shared) (H : Hp) (C : Addr) (cl : List (Str × Addr)) (fp : List Addr), PTs (X.blk s H scope (compEnvC scope cl C X.env) fp) ifs (rT T t))
    (hk : ∀ (s : Shared) (H : Hp) (C : Addr) (cl : List (Str × Addr)) (fp : List Addr), PE (X.blk s H scope (compEnvC scope cl C X.env) fp) kx (rE T mk))
    (hx : ∀ (s : Shared) (H : Hp) (C : Addr) (cl : List (Str × Addr)) (fp : List Addr), PE (X.blk s H scope (compEnvC scope cl C X.env) fp) vx (rE T mv))
    (hv : own.map (·.2) = vs := by rfl) (hs : subL is vs = true := by rfl) (hf : ∀ x : Value, foldedSetIterable iter X.env x = pure x := by intro _; rfl) :
    PE X (.DictComp kx vx [⟨tg, iter, ifs, 0⟩] scope pos) (rE T (mDc mi g t mk mv vs)) :=
  PEw (pe_dc c.calm c.nd hi ok hg ht hk hx hf) fun σ H Q q => by
    have e : List.map (fun x => x.2) own = vs := hv
    rw [e]
    exact dc_read hs q

/-! ### a dict while it is walked -/
theorem up_lock {ρ : List Addr} {H : Hp} {a : Addr} {u : HO} {od : Obj} (ha : H a = some u) (m : Mut (some u)) (nx : ∀ φ, u = .ext φ → NoCode u) : Up ρ H ρ (upd H a (.frz od u)) := up_put ha m nx
mutual
theorem VR.unlock {T : Tb} {ρ : List Addr} {H : Hp} {a : Addr} {od : Obj} {u : HO} (ha : H a = some (.frz od u)) (nt : ∀ vs, u ≠ .tup vs) : ∀ {d : DV} {v : V}, VR T ρ H d v → VR T ρ (upd H a u) d v
  | .non, v, h => h
  | .bl _, v, h => h
  | .int _, v, h => h
  | .str _, v, h => h
  | .tup xs, v, h => by
    obtain ⟨b, vs, e, s, r⟩ := h
    refine ⟨b, vs, e, ?_, VRs.unlock ha nt r⟩
    by_cases q : b = a
    · subst q
      rcases s with (s | ⟨o, s⟩) | s
      · rw [ha] at s; cases s
      · rw [ha] at s
        exact absurd (by cases s; rfl) (nt vs)
      · exact .inr s
    · rcases s with (s | ⟨o, s⟩) | s
      · exact .inl (.inl ((upd_ne q).trans s))
      · exact .inl (.inr ⟨o, (upd_ne q).trans s⟩)
      · exact .inr s
  | .loc l, v, h => h
  | .cn _, v, h => h
  | .opq, v, h => trivial
  | .act, v, h => h.elim
theorem VRs.unlock {T : Tb} {ρ : List Addr} {H : Hp} {a : Addr} {od : Obj} {u : HO} (ha : H a = some (.frz od u)) (nt : ∀ vs, u ≠ .tup vs) : ∀ {ds : List DV} {vs : List V}, VRs T ρ H ds vs → VRs T ρ (upd H a u) ds vs
  | [], vs, h => h
  | x :: xs, vs, h => by
    obtain ⟨v, r, e, h1, h2⟩ := h
    exact ⟨v, r, e, VR.unlock ha nt h1, VRs.unlock ha nt h2⟩
end
section
variable {T : Tb} {ρ : List Addr} {H : Hp} {a : Addr} {od : Obj} {u : HO}
theorem KVR.unlock (ha : H a = some (.frz od u)) (nt : ∀ vs, u ≠ .tup vs) : ∀ {ds : List (DV × DV)} {ks : List (Key × V)}, KVR T ρ H ds ks → KVR T ρ (upd H a u) ds ks
  | [], _, h => h
  | (k, d) :: r, _, h => by
    obtain ⟨k', v, r', e, h1, h2, h3⟩ := h
    exact ⟨k', v, r', e, h1, h2.unlock ha nt, KVR.unlock ha nt h3⟩
theorem KTV.unlock (ha : H a = some (.frz od u)) (nt : ∀ vs, u ≠ .tup vs) : ∀ {ds : List (List DV × DV)} {ks : List (List Key × V)}, KTV T ρ H ds ks → KTV T ρ (upd H a u) ds ks
  | [], _, h => h
  | (k, d) :: r, _, h => by
    obtain ⟨k', v, r', e, h1, h2, h3⟩ := h
    exact ⟨k', v, r', e, h1, h2.unlock ha nt, KTV.unlock ha nt h3⟩
theorem FR.unlock (ha : H a = some (.frz od u)) (nt : ∀ vs, u ≠ .tup vs) : ∀ {ds : List (Nat × DV)} {fs : List (Str × V)}, FR T ρ H ds fs → FR T ρ (upd H a u) ds fs
  | [], _, h => h
  | (k, d) :: r, _, h => by
    obtain ⟨v, r', e, h1, h2, h3⟩ := h
    exact ⟨v, r', e, h1, h2.unlock ha nt, FR.unlock ha nt h3⟩
theorem JR.unlock (ha : H a = some (.frz od u)) (nt : ∀ vs, u ≠ .tup vs) {b : Addr} {o : DO} (hb : b ≠ a) (h : JR T ρ H b o) : JR T ρ (upd H a u) b o := by
  cases o with
  | lst fz xs => cases fz with
    | false => obtain ⟨vs, r, q⟩ := h; exact ⟨vs, r.unlock ha nt, (upd_ne hb).trans q⟩
    | true => obtain ⟨vs, ob, r, q⟩ := h; exact ⟨vs, ob, r.unlock ha nt, (upd_ne hb).trans q⟩
  | dK fz xs => cases fz with
    | false => obtain ⟨vs, r, q⟩ := h; exact ⟨vs, r.unlock ha nt, (upd_ne hb).trans q⟩
    | true => obtain ⟨vs, ob, r, q⟩ := h; exact ⟨vs, ob, r.unlock ha nt, (upd_ne hb).trans q⟩
  | dT fz xs => cases fz with
    | false => obtain ⟨vs, r, q⟩ := h; exact ⟨vs, r.unlock ha nt, (upd_ne hb).trans q⟩
    | true => obtain ⟨vs, ob, r, q⟩ := h; exact ⟨vs, ob, r.unlock ha nt, (upd_ne hb).trans q⟩
  | ins c fs => obtain ⟨dx, gs, r, q⟩ := h; exact ⟨dx, gs, r.unlock ha nt, (upd_ne hb).trans q⟩
  | sT ks => exact (upd_ne hb).trans h
theorem HR.unlock {D : DH} {l : Nat} {d : DO} (h : HR T ρ D H) (hl : ρ[l]? = some a) (ha : H a = some (.frz od u)) (nt : ∀ vs, u ≠ .tup vs) (hj : JR T ρ (upd H a u) a d) : HR T ρ (D.put l d) (upd H a u) := by
  have hb : l < bigN := Nat.lt_of_lt_of_le (h.lt hl) h.big
  refine ⟨h.len, h.big, h.nod, fun k b e => ?_, fun p hp => ?_⟩
  rotate_left
  · obtain ⟨ps, h1, h2, h3⟩ := h.tab p hp
    refine ⟨ps, (upd_ne fun z => ?_).trans h1, h2, fun pos cv hc => ?_⟩
    · rw [z, ha] at h1; cases h1
    · obtain ⟨c, e1, e2⟩ := h3 pos cv hc
      refine ⟨c, e1, (upd_ne fun z => ?_).trans e2⟩
      rw [z, ha] at e2
      cases e2
  rw [DH.get_put hb]
  by_cases q : k = l
  · subst q
    rw [hl] at e; cases e
    rw [if_pos rfl]
    exact ⟨d, rfl, hj⟩
  · rw [if_neg q]
    obtain ⟨v, g, j⟩ := h.obj k b e
    have nb : b ≠ a := fun z => by subst z; exact q (h.inj e hl)
    exact ⟨v, g, j.unlock ha nt nb⟩
theorem SR.unlock (ha : H a = some (.frz od u)) (nt : ∀ vs, u ≠ .tup vs) : ∀ {ds : DL} {σ : L2.St}, SR T ρ H ds σ → SR T ρ (upd H a u) ds σ
  | [], _, h => h
  | d :: ds, _, h => by
    obtain ⟨o, r, e, h1, h2⟩ := h
    refine ⟨o, r, e, ?_, SR.unlock ha nt h2⟩
    cases d with
    | none => trivial
    | some d =>
      obtain ⟨v, q, r⟩ := h1
      rcases r with r | ⟨q1, q2, q3, q4⟩
      · exact ⟨v, q, .inl (r.unlock ha nt)⟩
      · refine ⟨v, q, .inr ⟨q1, q2, q3.unlock ha nt, (upd_ne fun z => ?_).trans q4⟩⟩
        rw [z, ha] at q4
        cases q4
/-- over a lock and its end, what was there before stays -/
theorem up_over {ρ' : List Addr} {H1 : Hp} (h0 : H a = some u) (m : Mut (some u)) (nx : ∀ φ, u = .ext φ → NoCode u) (up : Up ρ (upd H a (.frz od u)) ρ' H1) : Up ρ H ρ' (upd H1 a u) := by
  have ne : ∀ b x, H b = some x → ¬ Mut (some x) → b ≠ a := fun b x e nm z => by
    subst z; rw [h0] at e; cases e; exact nm m
  refine ⟨up.pre, fun b vs h => ?_, fun b o x h => ?_, fun b φ h => ?_⟩
  · have n := ne b _ h (fun z => z)
    rw [upd_ne n]; exact up.tup b vs (by rw [upd_ne n]; exact h)
  · have n := ne b _ h (fun z => z)
    rw [upd_ne n]; exact up.frz b o x (by rw [upd_ne n]; exact h)
  · have n : b ≠ a := fun z => by subst z; rw [h0] at h; exact nx _ (Option.some.inj h) _ _ (Option.some.inj h)
    rw [upd_ne n]; exact up.ext b φ (by rw [upd_ne n]; exact h)
end
/-- the dict's object, locked or freed -/
def lockD (b : Bool) (D : DH) (x : DV) : Option (Nat × DH) := match x with
  | .loc l => (match D.get l with
    | some (.dK f kvs) => cond (cond b (!f) f) (cond (Nat.blt l D.n) (some (l, D.put l (.dK b kvs))) none) none
    | some (.dT f kvs) => cond (cond b (!f) f) (cond (Nat.blt l D.n) (some (l, D.put l (.dT b kvs))) none) none
    | _ => none)
  | _ => none
/-- md: the dict (read beforehand, for its place alone) -/
def mLock (md m : ME) : ME := fun σ D => match md σ D with
  | .ok x _ => (match lockD true D x with
    | some (l, D1) => (match m σ D1 with
      | .ok v D2 => (match lockD false D2 (.loc l) with
        | some (_, D3) => .ok v D3
        | none => .bad)
      | .bad => .bad)
    | none => .bad)
  | .bad => .bad
def sLock (md : ME) (m : MS) : MS := fun σ D => match md σ D with
  | .ok x _ => (match lockD true D x with
    | some (l, D1) => (match m σ D1 with
      | .nx σ1 D2 => (match lockD false D2 (.loc l) with
        | some (_, D3) => .nx σ1 D3
        | none => .bad)
      | .rt v D2 => (match lockD false D2 (.loc l) with
        | some (_, D3) => .rt v D3
        | none => .bad)
      | _ => .bad)
    | none => .bad)
  | .bad => .bad
theorem lock_on {T : Tb} {ρ : List Addr} {H : Hp} {D D1 : DH} {x : DV} {l : Nat} (h : HR T ρ D H) (e : lockD true D x = some (l, D1)) :
    ∃ a u, ρ[l]? = some a ∧ H a = some u ∧ Mut (some u) ∧ (∀ φ, u = .ext φ → NoCode u) ∧ (∀ vs, u ≠ .tup vs) ∧ ∀ od, Up ρ H ρ (upd H a (.frz od u)) ∧ HR T ρ D1 (upd H a (.frz od u)) := by
  unfold lockD at e
  split at e
  · rename_i l'
    split at e
    · rename_i f kvs g
      obtain ⟨c, ea⟩ := cond_some e
      obtain ⟨c2, eb'⟩ := cond_some ea
      cases f with
      | true => cases c
      | false =>
        obtain ⟨el, rfl⟩ := Prod.mk.inj (Option.some.inj eb')
        subst el
        have hl : l' < ρ.length := by rw [h.len]; exact blt_lt c2
        obtain ⟨o, g', j⟩ := h.obj l' ρ[l'] (List.getElem?_eq_getElem hl)
        rw [g] at g'; cases g'
        obtain ⟨ks, rk, hd⟩ := j
        refine ⟨ρ[l'], _, List.getElem?_eq_getElem hl, hd, trivial, (fun _ z => by cases z), (fun _ z => by cases z), fun od => ?_⟩
        have u1 : Up ρ H ρ (upd H ρ[l'] (.frz od (.dK ks))) := up_put hd trivial (fun _ z => by cases z)
        exact ⟨u1, h.put (List.getElem?_eq_getElem hl) hd trivial (fun _ z => by cases z) ⟨ks, od, rk.up u1, upd_same⟩⟩
    · rename_i f kvs g
      obtain ⟨c, ea⟩ := cond_some e
      obtain ⟨c2, eb'⟩ := cond_some ea
      cases f with
      | true => cases c
      | false =>
        obtain ⟨el, rfl⟩ := Prod.mk.inj (Option.some.inj eb')
        subst el
        have hl : l' < ρ.length := by rw [h.len]; exact blt_lt c2
        obtain ⟨o, g', j⟩ := h.obj l' ρ[l'] (List.getElem?_eq_getElem hl)
        rw [g] at g'; cases g'
        obtain ⟨ks, rk, hd⟩ := j
        refine ⟨ρ[l'], _, List.getElem?_eq_getElem hl, hd, trivial, (fun _ z => by cases z), (fun _ z => by cases z), fun od => ?_⟩
        have u1 : Up ρ H ρ (upd H ρ[l'] (.frz od (.dT ks))) := up_put hd trivial (fun _ z => by cases z)
        exact ⟨u1, h.put (List.getElem?_eq_getElem hl) hd trivial (fun _ z => by cases z) ⟨ks, od, rk.up u1, upd_same⟩⟩
    · cases e
  · cases e
theorem lock_off {T : Tb} {ρ : List Addr} {H : Hp} {D D1 : DH} {l l' : Nat} {a : Addr} {od : Obj} {u : HO} (h : HR T ρ D H) (hl : ρ[l]? = some a) (ha : H a = some (.frz od u)) (nt : ∀ vs, u ≠ .tup vs) (e : lockD false D (.loc l) = some (l', D1)) :
    HR T ρ D1 (upd H a u) := by
  have e : (match D.get l with
    | some (.dK f kvs) => cond f (cond (Nat.blt l D.n) (some (l, D.put l (.dK false kvs))) none) none
    | some (.dT f kvs) => cond f (cond (Nat.blt l D.n) (some (l, D.put l (.dT false kvs))) none) none
    | _ => none) = some (l', D1) := e
  split at e
  · rename_i f kvs g
    obtain ⟨c, ea⟩ := cond_some e
    obtain ⟨c2, eb'⟩ := cond_some ea
    subst c
    obtain ⟨rfl, rfl⟩ := Prod.mk.inj (Option.some.inj eb')
    obtain ⟨b, eb, _, ks, o, rk, hd⟩ := h.at (v := .ref a) ⟨a, hl, rfl⟩ g
    obtain rfl : a = b := by cases eb; rfl
    rw [ha] at hd; cases hd
    exact h.unlock hl ha nt ⟨ks, rk.unlock ha nt, upd_same⟩
  · rename_i f kvs g
    obtain ⟨c, ea⟩ := cond_some e
    obtain ⟨c2, eb'⟩ := cond_some ea
    subst c
    obtain ⟨rfl, rfl⟩ := Prod.mk.inj (Option.some.inj eb')
    obtain ⟨b, eb, _, ks, o, rk, hd⟩ := h.at (v := .ref a) ⟨a, hl, rfl⟩ g
    obtain rfl : a = b := by cases eb; rfl
    rw [ha] at hd; cases hd
    exact h.unlock hl ha nt ⟨ks, rk.unlock ha nt, upd_same⟩
  · cases e
theorem ex_lock {T : Tb} {X : Cx} {e : Expr} {md m : ME} (h : PE X e (rE T m)) : PE X e (rE T (mLock md m)) := by
  refine PEw (pe_lock h) fun σ H Q ⟨ρ, σd, D, sr, hr, p⟩ => ?_
  unfold mLock at p
  cases e1 : md σd D with
  | bad => rw [e1] at p; exact p.elim
  | ok x Dx =>
    rw [e1] at p
    dsimp only at p
    cases e2 : lockD true D x with
    | none => rw [e2] at p; exact p.elim
    | some lD =>
      obtain ⟨l, D1⟩ := lD
      rw [e2] at p
      obtain ⟨a, u, hl, ha, mu, nx, nt, on⟩ := lock_on hr e2
      refine ⟨a, u, ha, mu, fun od => ?_⟩
      obtain ⟨u1, h1⟩ := on od
      refine ⟨ρ, σd, D1, sr.up u1, h1, ?_⟩
      dsimp only at p
      cases e3 : m σd D1 with
      | bad => rw [e3] at p; exact p.elim
      | ok v D2 =>
        rw [e3] at p
        intro ρ2 H2 w u2 h2 r2
        have ha2 : H2 a = some (.frz od u) := u2.frz a od u upd_same
        refine ⟨ha2, ?_⟩
        dsimp only at p
        cases e4 : lockD false D2 (.loc l) with
        | none => rw [e4] at p; exact p.elim
        | some lD =>
          obtain ⟨l', D3⟩ := lD
          rw [e4] at p
          exact p ρ2 _ w (up_over ha mu nx u2) (lock_off h2 (u2.at hl) ha2 nt e4) (r2.unlock ha2 nt)
theorem sx_lock {T : Tb} {X : Cx} {st : Stmt} {md : ME} {m : MS} (h : PS X st (rS T m)) : PS X st (rS T (sLock md m)) := by
  refine PSw (ps_lock h) fun E σ H ⟨ρ, σd, D, sr, hr, p⟩ => ?_
  unfold sLock at p
  cases e1 : md σd D with
  | bad => rw [e1] at p; exact p.elim
  | ok x Dx =>
    rw [e1] at p
    dsimp only at p
    cases e2 : lockD true D x with
    | none => rw [e2] at p; exact p.elim
    | some lD =>
      obtain ⟨l, D1⟩ := lD
      rw [e2] at p
      obtain ⟨a, u, hl, ha, mu, nx, nt, on⟩ := lock_on hr e2
      refine ⟨a, u, ha, mu, fun od => ?_⟩
      obtain ⟨u1, h1⟩ := on od
      refine ⟨ρ, σd, D1, sr.up u1, h1, ?_⟩
      dsimp only at p
      cases e3 : m σd D1 with
      | bad => rw [e3] at p; exact p.elim
      | bk σ1 D2 => rw [e3] at p; exact p.elim
      | ct σ1 D2 => rw [e3] at p; exact p.elim
      | nx σ1 D2 =>
        rw [e3] at p
        intro ρ2 H2 w u2 h2 r2
        have ha2 : H2 a = some (.frz od u) := u2.frz a od u upd_same
        refine ⟨ha2, ?_⟩
        dsimp only at p
        cases e4 : lockD false D2 (.loc l) with
        | none => rw [e4] at p; exact p.elim
        | some lD =>
          obtain ⟨l', D3⟩ := lD
          rw [e4] at p
          exact p ρ2 _ w (up_over ha mu nx u2) (lock_off h2 (u2.at hl) ha2 nt e4) (r2.unlock ha2 nt)
      | rt v D2 =>
        rw [e3] at p
        intro ρ2 H2 w u2 h2 r2
        have ha2 : H2 a = some (.frz od u) := u2.frz a od u upd_same
        refine ⟨ha2, ?_⟩
        dsimp only at p
        cases e4 : lockD false D2 (.loc l) with
        | none => rw [e4] at p; exact p.elim
        | some lD =>
          obtain ⟨l', D3⟩ := lD
          rw [e4] at p
          exact p ρ2 _ w (up_over ha mu nx u2) (lock_off h2 (u2.at hl) ha2 nt e4) (r2.unlock ha2 nt)
end
end FH

namespace FH
open PySem PySem.Spec PyProof.Rows L2

/-! ### enumerate of a tuple -/
theorem enum_new1 {v : Value} {o : Obj} {H : Heap → Prop} (B : Begins v o H) : Meets (Builtin.«enumerate.__new__» { pos := [Value.type "enumerate", v] }) fun x R s => H s.heap ∧ R (Except.ok (Flow.ret (Value.ref (s.heap.push o).objs.size)))
   { heap := (s.heap.push o).push { cls := Value.type "enumerate", data := Data.fields #[Value.none, Value.bool false, Value.ref s.heap.objs.size, rawInt 0, Value.none, Value.none] }, gens := s.gens, drawn := s.drawn, toks := s.toks, os := s.os } :=
  Meets.of_wp fun prog w A R s h => by
    obtain ⟨hp, g, d, tk, os⟩ := s
    obtain ⟨h1, h⟩ := h
    have hsub := sub_enumerate
    have fin : ∀ {E : Value → Shared → Prop}, wpAny (model prog w) A.in1 (do
        let it ← pyIter v
        let e ← Builtin.SmallTypes.newRecord (Value.type "enumerate") (Builtin.SmallTypes.ownedTupleFields ++ [it, rawInt 0, Value.none, Value.none])
        ret e) (fun fin s' => ∃ v, fin = Fin.done (Flow.ret v) ∧ R (Except.ok (Flow.ret v)) s') E { heap := hp, gens := g, drawn := d, toks := tk, os := os } := by
      intro E
      refine wpAny_bind (B.iter prog w _ E _ _ h1 ?_)
      refine wpAny_bind ?_
      unfold Builtin.SmallTypes.newRecord
      show wpAny _ _ (newObj _ _) _ _ _
      unfold newObj
      refine wpAny_ite_false rfl ?_
      refine wpAny_bind (wpAny_alloc' ?_)
      refine wpAny_pure ?_
      refine wpAny_pure ?_
      exact ⟨_, rfl, h⟩
    unfold Builtin.«enumerate.__new__»
    refine wpAny_bind ?_
    unfold Builtin.SmallTypes.newClass
    refine wpAny_bind ?_
    unfold isType
    refine wpAny_pure ?_
    refine wpAny_ite_false rfl ?_
    refine wpAny_bind (wpAny_of_eq hsub ?_)
    refine wpAny_ite_false rfl ?_
    refine wpAny_pure ?_
    refine wpAny_ite_true rfl ?_
    refine wpAny_bind ?_
    unfold Builtin.SmallTypes.calledThroughType
    refine wpAny_bind (wpAny_stack_any fun st => ?_)
    refine wpAny_pure ?_
    split
    · rename_i c _ _ _ _ _
      cases c == Value.type "enumerate"
      · refine wpAny_ite_false rfl ?_
        refine wpAny_bind ?_
        with_unfolding_all refine wpAny_pure (a := (v, none)) ?_
        exact fin
      · refine wpAny_ite_true rfl ?_
        refine wpAny_bind (wpAny_pure ?_)
        exact fin
    · refine wpAny_ite_false rfl ?_
      refine wpAny_bind ?_
      with_unfolding_all refine wpAny_pure (a := (v, none)) ?_
      exact fin

theorem call_enum_tuple {prog : Program} {w : World} {A : Around} {E : Value → Shared → Prop} {s : Shared} {l : Addr} {items : Array Value} {Q : Value → Shared → Prop} (hL : s.heap.IsTuple l items)
    (h : ∀ h' : Heap, IsEnum h' (s.heap.objs.size + 1) s.heap.objs.size 0 Value.none → h'.IsTupleIter s.heap.objs.size l 0 → h'.objs.size = s.heap.objs.size + 2 → (∀ (b : Addr) (o : Obj), s.heap.get? b = some o → h'.get? b = some o) →
      Q (Value.ref (s.heap.objs.size + 1)) { heap := h', gens := s.gens, drawn := s.drawn, toks := s.toks, os := s.os }) : wpAny (model prog w) A (call (Value.type "enumerate") [Value.ref l]) Q E s := by
  refine callType_new F.called_enumerate (by decide) (F.typeCall_enumerate_1 (Value.ref l)) (F.newCall_enumerate_1 (Value.ref l)) (fun obj => F.args_object_init_2 obj (Value.ref l)) F.entry_enumerate_new (enum_new1 (begins_tuple l items)) ⟨hL, ?_⟩
  have hz := Heap.size_push s.heap { cls := Value.type "tuple_iterator", data := Data.fields #[Value.ref l, Value.int 0 0] }
  have he := Heap.get?_push_size (s.heap.push { cls := Value.type "tuple_iterator", data := Data.fields #[Value.ref l, Value.int 0 0] }) (o := { cls := Value.type "enumerate", data := Data.fields #[Value.none, Value.bool false, Value.ref s.heap.objs.size, rawInt 0, Value.none, Value.none] }) rfl
  refine ⟨⟨_, he, rfl⟩, ?_⟩
  rw [hz] at he ⊢
  refine h _ he ⟨_, Heap.get?_push_of_some _ (Heap.get?_push_size s.heap rfl), rfl, rfl⟩ ?_ fun b o x => Heap.get?_push_of_some _ (Heap.get?_push_of_some _ x)
  rw [Heap.size_push, hz]

theorem next_enumT_end {prog : Program} {w : World} {A : Around} {E : Value → Shared → Prop} {s : Shared} {e it l : Addr} {i : Nat} {c : Int} {items : Array Value} {old : Value} {Q : Option Value → Shared → Prop} (hh : A.handled = none) (he : IsEnum s.heap e it c old)
    (hit : s.heap.IsTupleIter it l i) (hl : s.heap.IsTuple l items) (hx : items[i]? = none) (hQ : ∀ h' : Heap, Heap.ExtBut it s.heap h' → Q none { heap := h', gens := s.gens, drawn := s.drawn, toks := s.toks, os := s.os }) : wpAny (model prog w) A (pyNext (Value.ref e)) Q E s := by
  have hT : s.TypeIs (Value.ref e) "enumerate" := ⟨_, he, rfl⟩
  unfold pyNext
  refine wpAny_bind (wpAny_attempt (wpAny_callSpecial?_slot hT F.slot_enumerate_next (wpAny_call_entry F.slot_enumerate_next hT F.entry_enumerate_next ?_ (F.args_enumerate_next_1 (Value.ref e)))))
  unfold Builtin.«enumerate.__next__»
  refine wpAny_bind ?_
  with_unfolding_all refine wpAny_pure (a := (Value.ref e, [])) ?_
  refine wpAny_bind (wpAny_field he rfl rfl (wpAny_bind (RZ.nextOf_tuple_end hh hit hl hx fun h' x he' hx' => ?_)))
  obtain ⟨o, ho, hc⟩ := hx'
  exact wpAny_bind (wpAny_isInstance ⟨o, ho, hc⟩ isSubtype_stop (wpAny_pure (hQ h' he')))
def IteT (K : PySem.W.Frag) (a : Addr) : It := ⟨fun i H => ∃ xs x, SqT K H a xs ∧ xs[i]? = some x, fun i H v H' => ∃ T x, v = .ref T ∧ H T = none ∧ H' = upd H T (.tup [.int (i : Int), x]) ∧ ∀ xs, SqT K H a xs → xs[i]? = some x, fun i H => ∃ xs, SqT K H a xs ∧ xs.length ≤ i⟩
theorem turn_enumT {P : Program} {w : World} {K : PySem.W.Frag} {elts : List Expr} {kk : Nat} {tpos : Pos} (a e it : Addr) : Turn P w K (Expr.Tuple elts kk tpos) (IteT K a) [e, it] e fun i h => (∃ old, IsEnum h e it (i : Int) old) ∧ h.IsTupleIter it a i ∧ e ≠ it ∧ e ≠ a ∧ a ≠ it where
  mem := List.mem_cons_self
  obj := fun i h ⟨⟨old, he⟩, hi, _⟩ b hb => by
    obtain ⟨o, ho, hc, hd⟩ := hi
    rcases List.mem_cons.mp hb with rfl | hb
    · exact ⟨_, he, fun v q => nomatch q⟩
    · obtain rfl : b = it := by simpa using hb
      exact ⟨o, ho, fun v q => by rw [hd] at q; cases q⟩
  keep := fun i h h' ⟨⟨old, he⟩, hi, hne⟩ k => ⟨⟨old, k e List.mem_cons_self _ he⟩, hi.at fun o q => k it (by simp) o q, hne⟩
  item := fun X hP hw hK hc i pins s σ H E I hf st hg => by
    subst hP; subst hw; subst hK
    obtain ⟨⟨old, he⟩, hit, hne, hea, hai⟩ := st
    obtain ⟨xs, x, hq, hx⟩ := hg
    obtain ⟨its, rv, p, hz⟩ := I.tuple hq
    obtain ⟨u, hu, ru⟩ := Vals.get rv hx
    have hel := Heap.lt_size he
    have hil : it < s.heap.objs.size := by obtain ⟨o, q, _⟩ := hit; exact Heap.lt_size q
    have hi : i < its.toArray.size := by
      have := (List.getElem?_eq_some_iff.mp hu).1
      simpa using this
    refine wpAny_pyNext_enum_itemD (Draws.tuple (prog := X.prog) (w := X.w) (A := X.A.in1) (show X.A.in1.handled = none from I.ok.hd hc) it a hai its.toArray) he ⟨hit, p⟩ hi hne (by simp [hne, hea]) fun v h' tk hv ho ⟨hit', _⟩ hT hsz hk => ?_
    obtain rfl : v = u := by
      rw [List.getElem?_toArray] at hv
      rw [hu] at hv; cases hv; rfl
    refine ⟨_, rfl, wpAny_letOwnedTupleGo_enum ho fun h'' he' sb => ?_⟩
    have hT2 := (sb.2 s.heap.objs.size (Nat.ne_of_gt hel)).trans hT
    have new : ObjOk X.prog X.w (upd H s.heap.objs.size (.tup [.int (i : Int), x])) h'' s.heap.objs.size (.tup [.int (i : Int), x]) := ⟨(by show 2 ≤ sizeLine; decide), [Value.int (i : Int) tk, v], .cons ⟨tk, rfl⟩ (.cons ru .nil), _, hT2, rfl, 0, rfl⟩
    have I1 := Inv.turnedNew (t' := tk + 1) I (h' := h'') (ch := [e, it]) (fun b ob hb q => (sb.2 b (fun z => hb (by simp [z]))).trans (hk b ob (fun z => hb (by simp [z])) (fun z => hb (by simp [z])) q)) hf (Nat.le_refl _) new
    refine ⟨V.ref s.heap.objs.size, _, I1, rfl, ⟨_, x, rfl, HOk.fresh I.hok (Nat.le_refl _), rfl, fun ys hy => by rw [I.tuple_inj hy hq]; exact hx⟩, ⟨⟨v, ?_⟩, hit'.at fun o q => (sb.2 it hne.symm).trans q, hne, hea, hai⟩, fun b hb => ?_⟩
    · have e1 : ((i + 1 : Nat) : Int) = (i : Int) + 1 := by omega
      rw [e1]
      exact he'
    · have hb' : b < s.heap.objs.size := by
        rcases List.mem_cons.mp hb with rfl | hb
        · exact hel
        · obtain rfl : b = it := by simpa using hb
          exact hil
      rw [upd_ne (Nat.ne_of_lt hb')]
      exact (hf b hb).1
  done := fun X hP hw hK hc i pins s σ H E I hf st hg => by
    subst hP; subst hw; subst hK
    obtain ⟨⟨old, he⟩, hit, hne, hea, hai⟩ := st
    obtain ⟨xs, hq, hx⟩ := hg
    obtain ⟨its, rv, p, hz⟩ := I.tuple hq
    obtain ⟨f0, f1, f2, f3, f4, f5⟩ := hf it (by simp)
    have hl := Vals.length rv
    have hx' : its.toArray[i]? = none := by
      rw [List.getElem?_toArray]
      exact List.getElem?_eq_none_iff.mpr (by omega)
    exact next_enumT_end (I.ok.hd hc) he hit p hx' fun h' eb => ⟨rfl, Inv.turned I (fun b o hb q => eb b o hb q) f0 f1 f3 f4 f5⟩
  self := fun A i s Q E ⟨⟨_, he⟩, _⟩ h => wpAny_pyIter_enum he h
theorem pi_enumT {X : Cx} {e : Expr} {ta : TA} {p pos tpos : Pos} {elts : List Expr} {kk : Nat} (hg : Gl X (Str.ofString "enumerate")) (hm : X.mg (Str.ofString "enumerate") = none) (ha : PA X [e] ta) (hs : starEach [e] X.env = [(false, eval e X.env)]) :
    PI X (.Tuple elts kk tpos) (.Call (.Name (Str.ofString "enumerate") p) [e] [] pos) (fun σ H R => ta σ H fun vs H1 => ∃ a xs, vs = [V.ref a] ∧ SqT X.K H1 a xs ∧ R (IteT X.K a) H1) := by
  refine ⟨fun pins s σ H R I h => Call_ (ld_blt I hg hm boot_enumerate (PyProof.Rows.callWith_type1 (thn (ha.run pos pins s σ H _ I h) fun us s1 ⟨vs, H1, I1, r1, a, xs, ev, hq, q⟩ => ?_) hs rfl) (by decide) (by decide)) rfl⟩
  subst ev
  cases r1 with
  | cons r rr =>
    cases rr
    cases r
    obtain ⟨its, rv, p', hz⟩ := I1.tuple hq
    have ha : a < s1.heap.objs.size := by obtain ⟨o, q, _⟩ := p'; exact Heap.lt_size q
    refine call_enum_tuple p' fun h' he hit hsz hk => ?_
    refine wpAny_pyIter_enum he ?_
    have I2 := Inv.kept (t' := s1.toks) I1 hk
    refine ⟨s1.heap.objs.size + 1, [s1.heap.objs.size + 1, s1.heap.objs.size], _, IteT X.K a, H1, rfl, I2, turn_enumT a _ s1.heap.objs.size, ⟨⟨Value.none, he⟩, hit, Nat.succ_ne_self _, Nat.ne_of_gt (Nat.lt_succ_of_lt ha), Nat.ne_of_lt ha⟩, fun b hb => ?_, q⟩
    have hle : s1.heap.objs.size ≤ b := by
      rcases List.mem_cons.mp hb with rfl | hb
      · exact Nat.le_add_right _ 1
      · obtain rfl : b = s1.heap.objs.size := by simpa using hb
        exact Nat.le_refl _
    exact Inv.fpOk I1 hle (HOk.fresh I1.hok hle)
end FH

namespace FH
open PySem PySem.Spec PyProof.Rows L2

/-- enumerate of a list or a tuple -/
theorem pi_enumA {X : Cx} {e : Expr} {ta : TA} {p pos tpos : Pos} {elts : List Expr} {kk : Nat} (hg : Gl X (Str.ofString "enumerate")) (hm : X.mg (Str.ofString "enumerate") = none) (ha : PA X [e] ta) (hs : starEach [e] X.env = [(false, eval e X.env)]) :
    PI X (.Tuple elts kk tpos) (.Call (.Name (Str.ofString "enumerate") p) [e] [] pos) (fun σ H R => ta σ H fun vs H1 => ∃ a xs, vs = [V.ref a] ∧ ((SqL X.K H1 a xs ∧ R (Ite X.K a) H1) ∨ (SqT X.K H1 a xs ∧ R (IteT X.K a) H1))) := by
  refine ⟨fun pins s σ H R I h => Call_ (ld_blt I hg hm boot_enumerate (PyProof.Rows.callWith_type1 (thn (ha.run pos pins s σ H _ I h) fun us s1 ⟨vs, H1, I1, r1, a, xs, ev, hq⟩ => ?_) hs rfl) (by decide) (by decide)) rfl⟩
  subst ev
  cases r1 with
  | cons r rr =>
    cases rr
    cases r
    rcases hq with ⟨hq, q⟩ | ⟨hq, q⟩
    · obtain ⟨its, rv, p', hz⟩ := I1.list hq
      refine call_enumerate_list p'.isList fun h' he hit hsz hk => ?_
      refine wpAny_pyIter_enum he ?_
      have I2 := Inv.kept (t' := s1.toks) I1 hk
      refine ⟨s1.heap.objs.size + 1, [s1.heap.objs.size + 1, s1.heap.objs.size], _, Ite X.K a, H1, rfl, I2, turn_enum a _ s1.heap.objs.size, ⟨⟨Value.none, he⟩, hit, Nat.succ_ne_self _⟩, fun b hb => ?_, q⟩
      have hle : s1.heap.objs.size ≤ b := by
        rcases List.mem_cons.mp hb with rfl | hb
        · exact Nat.le_add_right _ 1
        · obtain rfl : b = s1.heap.objs.size := by simpa using hb
          exact Nat.le_refl _
      exact Inv.fpOk I1 hle (HOk.fresh I1.hok hle)
    · obtain ⟨its, rv, p', hz⟩ := I1.tuple hq
      have ha : a < s1.heap.objs.size := by obtain ⟨o, q, _⟩ := p'; exact Heap.lt_size q
      refine call_enum_tuple p' fun h' he hit hsz hk => ?_
      refine wpAny_pyIter_enum he ?_
      have I2 := Inv.kept (t' := s1.toks) I1 hk
      refine ⟨s1.heap.objs.size + 1, [s1.heap.objs.size + 1, s1.heap.objs.size], _, IteT X.K a, H1, rfl, I2, turn_enumT a _ s1.heap.objs.size, ⟨⟨Value.none, he⟩, hit, Nat.succ_ne_self _, Nat.ne_of_gt (Nat.lt_succ_of_lt ha), Nat.ne_of_lt ha⟩, fun b hb => ?_, q⟩
      have hle : s1.heap.objs.size ≤ b := by
        rcases List.mem_cons.mp hb with rfl | hb
        · exact Nat.le_add_right _ 1
        · obtain rfl : b = s1.heap.objs.size := by simpa using hb
          exact Nat.le_refl _
      exact Inv.fpOk I1 hle (HOk.fresh I1.hok hle)

/-! ### what is walked, further -/
/-- items numbered -/
def enumD (o : Option DV) (i : Nat) : Option DV := match o with
  | some d => some (.tup [.int (.ofNat i), d])
  | none => none
def Src.enumV (xs : List DV) : Src := ⟨fun _ i => some (enumD (lat xs i) i), fun _ => xs.length⟩
def Src.enumL (l : Nat) : Src := ⟨fun D i => (match D.get l with
    | some (.lst _ xs) => some (enumD (lat xs i) i)
    | _ => none), fun D => (match D.get l with
    | some (.lst _ xs) => xs.length
    | _ => 0)⟩
def pairD (a b : Option DV) : Option DV := match a, b with
  | some x, some y => some (.tup [x, y])
  | _, _ => none
def Src.zipV (xs ys : List DV) : Src := ⟨fun _ i => some (pairD (lat xs i) (lat ys i)), fun _ => xs.length⟩
def Src.zipL (l m : Nat) : Src := ⟨fun D i => (match D.get l with
    | some (.lst _ xs) => (match D.get m with
      | some (.lst _ ys) => some (pairD (lat xs i) (lat ys i))
      | _ => none)
    | _ => none), fun D => (match D.get l with
    | some (.lst _ xs) => xs.length
    | _ => 0)⟩
def rngD : Nat → Int → List DV
  | 0, _ => []
  | n + 1, i => .int i :: rngD n (Int.add i 1)
section
variable {T : Tb} {k : Nat} {X : Cx} {tg iter e : Expr} {es elts : List Expr} {is : List Nat} {pos p tpos : Pos} {kk : Nat} {m : ME} {mr : MA}
def iKeysM (m : ME) : MI := fun σ D => match m σ D with
  | .ok (.loc l) D1 => (match D1.get l with
    | some (.dK true kvs) => .ok (.vals (kvs.map (·.1))) D1
    | some (.dT true kvs) => .ok (.vals (kvs.map fun kv => .tup kv.1)) D1
    | _ => .bad)
  | _ => .bad
theorem lat_some {α : Type} {xs : List DV} {i : Nat} {d : DV} (e : lat xs i = some d) : xs[i]? = some d := by rw [← lat_eq]; exact e
theorem lat_none {xs : List DV} {i : Nat} (e : lat xs i = none) : xs.length ≤ i := by
  rw [lat_eq] at e
  exact List.getElem?_eq_none_iff.mp e
theorem KVR.at {ρ : List Addr} {H : Hp} : ∀ {kvs : List (DV × DV)} {ks : List (Key × V)} {i : Nat} {k : Key} {v : V}, KVR T ρ H kvs ks → ks[i]? = some (k, v) → ∃ d, (kvs.map (·.1))[i]? = some d ∧ KR d k
  | [], _, _, _, _, h, e => by cases h; simp at e
  | (x, d) :: r, _, 0, k, v, h, e => by
    obtain ⟨k', v', r', rfl, h1, h2, h3⟩ := h
    simp at e
    obtain ⟨rfl, rfl⟩ := e
    exact ⟨x, rfl, h1⟩
  | (x, d) :: r, _, i + 1, k, v, h, e => by
    obtain ⟨k', v', r', rfl, h1, h2, h3⟩ := h
    obtain ⟨d', a, b⟩ := KVR.at (i := i) (k := k) (v := v) h3 (by simpa using e)
    exact ⟨d', by simpa using a, b⟩
theorem KTV.at {ρ : List Addr} {H : Hp} : ∀ {kvs : List (List DV × DV)} {ks : List (List Key × V)} {i : Nat} {k : List Key} {v : V}, KTV T ρ H kvs ks → ks[i]? = some (k, v) → ∃ d, (kvs.map fun kv => DV.tup kv.1)[i]? = some (.tup d) ∧ KTR d k
  | [], _, _, _, _, h, e => by cases h; simp at e
  | (x, d) :: r, _, 0, k, v, h, e => by
    obtain ⟨k', v', r', rfl, h1, h2, h3⟩ := h
    simp at e
    obtain ⟨rfl, rfl⟩ := e
    exact ⟨x, rfl, h1⟩
  | (x, d) :: r, _, i + 1, k, v, h, e => by
    obtain ⟨k', v', r', rfl, h1, h2, h3⟩ := h
    obtain ⟨d', a, b⟩ := KTV.at (i := i) (k := k) (v := v) h3 (by simpa using e)
    exact ⟨d', by simpa using a, b⟩
theorem KTR.vrs {ρ : List Addr} {H : Hp} : ∀ {ds : List DV} {k : List Key}, KTR ds k → VRs T ρ H ds (k.map kV)
  | [], _, h => by cases h; rfl
  | d :: ds, k, h => by
    obtain ⟨a, r, rfl, h1, h2⟩ := KTR.cons h
    exact ⟨_, _, rfl, h1.vr, KTR.vrs h2⟩
theorem itd_keys {ρ : List Addr} {H : Hp} {a : Addr} {o : Obj} {kvs : List (DV × DV)} {ks : List (Key × V)} (r : KVR T ρ H kvs ks) (s : H a = some (.frz o (.dK ks))) : ItD T ρ H (.vals (kvs.map (·.1))) (Itk a o ks) := by
  intro ρ1 D1 H1 u h i
  show match some (lat (kvs.map (·.1)) i) with
    | none => True
    | some none => (Itk a o ks).stop i H1
    | some (some d) => (Itk a o ks).go i H1 ∧ ∀ x H', (Itk a o ks).yld i H1 x H' → Up ρ1 H1 ρ1 H' ∧ HR T ρ1 D1 H' ∧ VR T ρ1 H' d x
  have s1 := u.frz _ _ _ s
  cases e : lat (kvs.map (·.1)) i with
  | none => exact ⟨s1, by have := lat_none e; rw [List.length_map] at this; rw [r.len]; exact this⟩
  | some d =>
    have hd := lat_some (α := Nat) e
    have hi : i < ks.length := by
      have := (List.getElem?_eq_some_iff.mp hd).1
      rw [List.length_map] at this
      rw [r.len]; exact this
    refine ⟨⟨s1, hi⟩, fun x H' y => ?_⟩
    obtain ⟨rfl, k, v, e1, rfl⟩ := y
    obtain ⟨d', e2, hk⟩ := r.at e1
    rw [hd] at e2; cases e2
    exact ⟨Up.refl _ _, h, hk.vr⟩
theorem itd_keysT {ρ : List Addr} {H : Hp} {a : Addr} {o : Obj} {kvs : List (List DV × DV)} {ks : List (List Key × V)} (r : KTV T ρ H kvs ks) (s : H a = some (.frz o (.dT ks))) : ItD T ρ H (.vals (kvs.map fun kv => .tup kv.1)) (Itkt a o ks) := by
  intro ρ1 D1 H1 u h i
  show match some (lat (kvs.map fun kv => .tup kv.1) i) with
    | none => True
    | some none => (Itkt a o ks).stop i H1
    | some (some d) => (Itkt a o ks).go i H1 ∧ ∀ x H', (Itkt a o ks).yld i H1 x H' → Up ρ1 H1 ρ1 H' ∧ HR T ρ1 D1 H' ∧ VR T ρ1 H' d x
  have s1 := u.frz _ _ _ s
  cases e : lat (kvs.map fun kv => DV.tup kv.1) i with
  | none => exact ⟨s1, by have := lat_none e; rw [List.length_map] at this; rw [r.len]; exact this⟩
  | some d =>
    have hd := lat_some (α := Nat) e
    have hi : i < ks.length := by
      have := (List.getElem?_eq_some_iff.mp hd).1
      rw [List.length_map] at this
      rw [r.len]; exact this
    refine ⟨⟨s1, hi⟩, fun x H' y => ?_⟩
    obtain ⟨rfl, k, v, q, e1, rfl, hq⟩ := y
    obtain ⟨d', e2, hk⟩ := r.at e1
    rw [hd] at e2; cases e2
    exact ⟨Up.refl _ _, h, q, _, rfl, SqT.of hq, hk.vrs⟩
theorem ix_keysM (h : PE X iter (rE T m)) : PI X tg iter (rI T (iKeysM m)) := by
  refine PIw (pi_keys h) fun σ H Q ⟨ρ, σd, D, sr, hr, p⟩ => ⟨ρ, σd, D, sr, hr, ?_⟩
  unfold iKeysM at p
  cases e1 : m σd D with
  | bad => rw [e1] at p; exact p.elim
  | ok d D1 =>
    rw [e1] at p
    cases d with
    | loc l =>
      intro ρ1 H1 v u1 h1 r1
      dsimp only at p
      split at p
      · rename_i kvs g
        obtain ⟨a, rfl, _, ks, o, rk, hd⟩ := h1.at r1 g
        exact ⟨a, o, rfl, .inl ⟨ks, hd, p ρ1 H1 _ u1 h1 (itd_keys rk hd)⟩⟩
      · rename_i kvs g
        obtain ⟨a, rfl, _, ks, o, rk, hd⟩ := h1.at r1 g
        exact ⟨a, o, rfl, .inr ⟨ks, hd, p ρ1 H1 _ u1 h1 (itd_keysT rk hd)⟩⟩
      · exact p.elim
    | _ => exact p.elim

/-- range -/
theorem rngD_at : ∀ (n : Nat) (lo : Int) (i : Nat), lat (rngD n lo) i = if i < n then some (.int (lo + (i : Nat))) else none
  | 0, _, _ => by simp [rngD, lat]
  | n + 1, lo, 0 => by simp [rngD, lat]
  | n + 1, lo, i + 1 => by
    have := rngD_at n (Int.add lo 1) i
    simp only [rngD, lat]
    rw [this]
    by_cases h : i < n
    · rw [if_pos h, if_pos (by omega)]
      have : Int.add lo 1 + (i : Nat) = lo + ((i + 1 : Nat) : Nat) := by show lo + 1 + (i : Int) = lo + ((i + 1 : Nat) : Int); omega
      rw [this]
    · rw [if_neg h, if_neg (by omega)]
theorem itd_rng {ρ : List Addr} {H : Hp} {lo : Int} {n : Nat} : ItD T ρ H (.vals (rngD n lo)) (Itr lo n) := by
  intro ρ1 D1 H1 u h i
  show match some (lat (rngD n lo) i) with
    | none => True
    | some none => (Itr lo n).stop i H1
    | some (some d) => (Itr lo n).go i H1 ∧ ∀ x H', (Itr lo n).yld i H1 x H' → Up ρ1 H1 ρ1 H' ∧ HR T ρ1 D1 H' ∧ VR T ρ1 H' d x
  rw [rngD_at]
  by_cases q : i < n
  · rw [if_pos q]
    refine ⟨q, fun x H' y => ?_⟩
    obtain ⟨rfl, rfl⟩ := y
    exact ⟨Up.refl _ _, h, rfl⟩
  · rw [if_neg q]
    exact Nat.le_of_not_lt q
def rngOk (i : Int) : Bool := cond (PySem.W.Z.leB (-4611686018427387904) i) (PySem.W.Z.ltB i 4611686018427387904) false
theorem rngOk_ok {i : Int} (h : rngOk i = true) : -(2 ^ 62) ≤ i ∧ i < 2 ^ 62 := by
  unfold rngOk at h
  cases e : PySem.W.Z.leB (-4611686018427387904) i with
  | false => rw [e] at h; cases h
  | true =>
    rw [e] at h
    have h1 := (PySem.W.Z.leB_iff _ _).mp e
    have h2 := ltB_of h
    omega
def iRng1M (mr : MA) : MI := fun σ D => match mr σ D with
  | .ok [.int j] D1 => cond (rngOk j) (.ok (.vals (rngD j.toNat 0)) D1) .bad
  | _ => .bad
def iRng2M (mr : MA) : MI := fun σ D => match mr σ D with
  | .ok [.int i, .int j] D1 => cond (rngOk i) (cond (rngOk j) (.ok (.vals (rngD (Int.sub j i).toNat i)) D1) .bad) .bad
  | _ => .bad
theorem cond_okI {ρ : List Addr} {H : Hp} {c : Bool} {r : R Src} {Q : It → Hp → Prop} (p : pI T ρ H (cond c r .bad) Q) : c = true ∧ pI T ρ H r Q := by
  cases c with
  | true => exact ⟨rfl, p⟩
  | false => exact p.elim
theorem ix_rng1 (h : PA X [e] (rA T mr)) (hg : Gl X (Str.ofString "range") := by rfl) (hm : X.mg (Str.ofString "range") = none := by rfl) (hs : starEach [e] X.env = [(false, eval e X.env)] := by rfl) :
    PI X tg (.Call (.Name (Str.ofString "range") p) [e] [] pos) (rI T (iRng1M mr)) := by
  refine PIw (pi_range1 hg hm h hs) fun σ H Q ⟨ρ, σd, D, sr, hr, p⟩ => ⟨ρ, σd, D, sr, hr, ?_⟩
  unfold iRng1M at p
  cases e1 : mr σd D with
  | bad => rw [e1] at p; exact p.elim
  | ok ds D1 =>
    rw [e1] at p
    intro ρ1 H1 vs u1 h1 r1
    split at p
    · rename_i j D2 e2
      cases e2
      obtain ⟨v, rfl, rr⟩ := r1.one
      cases rr
      obtain ⟨c, p⟩ := cond_okI p
      obtain ⟨a, b⟩ := rngOk_ok c
      exact ⟨j, rfl, a, b, p ρ1 H1 _ u1 h1 itd_rng⟩
    · exact p.elim
theorem ix_rng2 {e2 : Expr} (h : PA X [e, e2] (rA T mr)) (hg : Gl X (Str.ofString "range") := by rfl) (hm : X.mg (Str.ofString "range") = none := by rfl) (hs : starEach [e, e2] X.env = [(false, eval e X.env), (false, eval e2 X.env)] := by rfl) (hs' : starEach [e2] X.env = [(false, eval e2 X.env)] := by rfl) :
    PI X tg (.Call (.Name (Str.ofString "range") p) [e, e2] [] pos) (rI T (iRng2M mr)) := by
  refine PIw (pi_range2 hg hm h hs hs') fun σ H Q ⟨ρ, σd, D, sr, hr, p⟩ => ⟨ρ, σd, D, sr, hr, ?_⟩
  unfold iRng2M at p
  cases e1 : mr σd D with
  | bad => rw [e1] at p; exact p.elim
  | ok ds D1 =>
    rw [e1] at p
    intro ρ1 H1 vs u1 h1 r1
    split at p
    · rename_i i j D2 e2
      cases e2
      obtain ⟨v, w, rfl, ra, rb⟩ := r1.two
      cases ra; cases rb
      obtain ⟨c, p⟩ := cond_okI p
      obtain ⟨c2, p⟩ := cond_okI p
      obtain ⟨a, b⟩ := rngOk_ok c
      obtain ⟨a2, b2⟩ := rngOk_ok c2
      exact ⟨i, j, rfl, ⟨a, b, a2, b2⟩, p ρ1 H1 _ u1 h1 itd_rng⟩
    · exact p.elim

/-! zip, enumerate -/
def iZipM (mr : MA) : MI := fun σ D => match mr σ D with
  | .ok [.tup xs, .tup ys] D1 => .ok (.zipV xs ys) D1
  | .ok [.loc l, .loc m] D1 => (match D1.get l with
    | some (.lst _ _) => (match D1.get m with
      | some (.lst _ _) => .ok (.zipL l m) D1
      | _ => .bad)
    | _ => .bad)
  | _ => .bad
theorem itd_zipV {ρ : List Addr} {H : Hp} {a b : Addr} {xs ys : List DV} {vs ws : List V} (s : SqT T.K H a vs) (r : VRs T ρ H xs vs) (s' : SqT T.K H b ws) (r' : VRs T ρ H ys ws) : ItD T ρ H (.zipV xs ys) (RZ.ItzT T.K a b) := by
  intro ρ1 D1 H1 u h i
  show match some (pairD (lat xs i) (lat ys i)) with
    | none => True
    | some none => (RZ.ItzT T.K a b).stop i H1
    | some (some d) => (RZ.ItzT T.K a b).go i H1 ∧ ∀ x H', (RZ.ItzT T.K a b).yld i H1 x H' → Up ρ1 H1 ρ1 H' ∧ HR T ρ1 D1 H' ∧ VR T ρ1 H' d x
  have s1 := u.sqT s
  have r1 := r.up u
  have s2 := u.sqT s'
  have r2 := r'.up u
  cases e : lat xs i with
  | none => exact ⟨vs, ws, s1, s2, .inl (by rw [r1.len]; exact lat_none e)⟩
  | some d =>
    cases e2 : lat ys i with
    | none => exact ⟨vs, ws, s1, s2, .inr (by rw [r2.len]; exact lat_none e2)⟩
    | some d2 =>
      obtain ⟨v, h1, h2⟩ := r1.at (lat_some (α := Nat) e)
      obtain ⟨w, h3, h4⟩ := r2.at (lat_some (α := Nat) e2)
      refine ⟨⟨vs, ws, v, w, s1, s2, h1, h3⟩, fun x H' y => ?_⟩
      obtain ⟨t, x', y', rfl, ht, rfl, q1, q2⟩ := y
      have q1 := q1 vs s1
      have q2 := q2 ws s2
      rw [h1] at q1; cases q1
      rw [h3] at q2; cases q2
      exact ⟨up_new ht, h.new ht, t, _, rfl, SqT.of upd_same, _, _, rfl, h2.up (up_new (ρ := ρ1) ht), _, _, rfl, h4.up (up_new (ρ := ρ1) ht), rfl⟩
theorem itd_zipL {ρ : List Addr} {H : Hp} {a b : Addr} {l m : Nat} (ea : ρ[l]? = some a) (eb : ρ[m]? = some b) : ItD T ρ H (.zipL l m) (Itz T.K a b) := by
  intro ρ1 D1 H1 u h i
  have ea := u.at ea
  have eb := u.at eb
  obtain ⟨o, g, j⟩ := h.obj l a ea
  obtain ⟨o2, g2, j2⟩ := h.obj m b eb
  show match (match D1.get l with
      | some (.lst _ xs) => (match D1.get m with
        | some (.lst _ ys) => some (pairD (lat xs i) (lat ys i))
        | _ => none)
      | _ => none) with
    | none => True
    | some none => (Itz T.K a b).stop i H1
    | some (some d) => (Itz T.K a b).go i H1 ∧ ∀ x H', (Itz T.K a b).yld i H1 x H' → Up ρ1 H1 ρ1 H' ∧ HR T ρ1 D1 H' ∧ VR T ρ1 H' d x
  rw [g, g2]
  cases o with
  | lst fz xs =>
    cases o2 with
    | lst fz2 ys =>
      obtain ⟨vs, r1, s1⟩ := j.seqL
      obtain ⟨ws, r2, s2⟩ := j2.seqL
      dsimp only
      cases e : lat xs i with
      | none => exact ⟨vs, ws, s1, s2, .inl (by rw [r1.len]; exact lat_none e)⟩
      | some d =>
        cases e2 : lat ys i with
        | none => exact ⟨vs, ws, s1, s2, .inr (by rw [r2.len]; exact lat_none e2)⟩
        | some d2 =>
          obtain ⟨v, h1, h2⟩ := r1.at (lat_some (α := Nat) e)
          obtain ⟨w, h3, h4⟩ := r2.at (lat_some (α := Nat) e2)
          refine ⟨⟨vs, ws, v, w, s1, s2, h1, h3⟩, fun x H' y => ?_⟩
          obtain ⟨t, x', y', rfl, ht, rfl, q1, q2⟩ := y
          have q1 := q1 vs s1
          have q2 := q2 ws s2
          rw [h1] at q1; cases q1
          rw [h3] at q2; cases q2
          exact ⟨up_new ht, h.new ht, t, _, rfl, SqT.of upd_same, _, _, rfl, h2.up (up_new (ρ := ρ1) ht), _, _, rfl, h4.up (up_new (ρ := ρ1) ht), rfl⟩
    | _ => trivial
  | _ => trivial
theorem ix_zipM {e2 : Expr} (c : Cn T k X) (h : PA X [e, e2] (rA T mr)) (hg : Gl X (Str.ofString "zip") := by rfl) (hm : X.mg (Str.ofString "zip") = none := by rfl)
    (hs : starEach [e, e2] X.env = (false, eval e X.env) :: starEach [e2] X.env := by rfl) (hb : ((backTo pos (starEach [e2] X.env)).any fun x => x.1) = false := by rfl) :
    PI X (.Tuple elts kk tpos) (.Call (.Name (Str.ofString "zip") p) [e, e2] [] pos) (rI T (iZipM mr)) := by
  refine PIw (RZ.pi_zipA hg hm h hs hb) fun σ H Q ⟨ρ, σd, D, sr, hr, p⟩ => ⟨ρ, σd, D, sr, hr, ?_⟩
  unfold iZipM at p
  cases e1 : mr σd D with
  | bad => rw [e1] at p; exact p.elim
  | ok ds D1 =>
    rw [e1] at p
    intro ρ1 H1 vs u1 h1 r1
    split at p
    · rename_i xs ys D2 e2
      cases e2
      obtain ⟨v, w, rfl, ra, rb⟩ := r1.two
      obtain ⟨a, us, rfl, sa, va⟩ := ra
      obtain ⟨b, ws, rfl, sb, vb⟩ := rb
      rw [c.K]
      exact ⟨a, b, us, ws, rfl, .inr ⟨sa, sb, p ρ1 H1 _ u1 h1 (itd_zipV sa va sb vb)⟩⟩
    · rename_i l m D2 e2
      cases e2
      obtain ⟨v, w, rfl, ra, rb⟩ := r1.two
      split at p
      · rename_i fz xs g
        split at p
        · rename_i fz2 ys g2
          obtain ⟨a, rfl, la, ja⟩ := h1.at ra g
          obtain ⟨b, rfl, lb, jb⟩ := h1.at rb g2
          obtain ⟨us, va, sa⟩ := ja.seqL
          obtain ⟨ws, vb, sb⟩ := jb.seqL
          rw [c.K]
          exact ⟨a, b, us, ws, rfl, .inl ⟨sa, sb, p ρ1 H1 _ u1 h1 (itd_zipL la lb)⟩⟩
        · exact p.elim
      · exact p.elim
    · exact p.elim
def iEnumM (mr : MA) : MI := fun σ D => match mr σ D with
  | .ok [.tup xs] D1 => .ok (.enumV xs) D1
  | .ok [.loc l] D1 => (match D1.get l with
    | some (.lst _ _) => .ok (.enumL l) D1
    | _ => .bad)
  | _ => .bad
theorem itd_enumV {ρ : List Addr} {H : Hp} {a : Addr} {xs : List DV} {vs : List V} (s : SqT T.K H a vs) (r : VRs T ρ H xs vs) : ItD T ρ H (.enumV xs) (IteT T.K a) := by
  intro ρ1 D1 H1 u h i
  show match some (enumD (lat xs i) i) with
    | none => True
    | some none => (IteT T.K a).stop i H1
    | some (some d) => (IteT T.K a).go i H1 ∧ ∀ x H', (IteT T.K a).yld i H1 x H' → Up ρ1 H1 ρ1 H' ∧ HR T ρ1 D1 H' ∧ VR T ρ1 H' d x
  have s1 := u.sqT s
  have r1 := r.up u
  cases e : lat xs i with
  | none => exact ⟨vs, s1, by rw [r1.len]; exact lat_none e⟩
  | some d =>
    obtain ⟨v, h1, h2⟩ := r1.at (lat_some (α := Nat) e)
    refine ⟨⟨vs, v, s1, h1⟩, fun x H' y => ?_⟩
    obtain ⟨t, x', rfl, ht, rfl, q1⟩ := y
    have q1 := q1 vs s1
    rw [h1] at q1; cases q1
    exact ⟨up_new ht, h.new ht, t, _, rfl, SqT.of upd_same, _, _, rfl, rfl, _, _, rfl, h2.up (up_new (ρ := ρ1) ht), rfl⟩
theorem itd_enumL {ρ : List Addr} {H : Hp} {a : Addr} {l : Nat} (ea : ρ[l]? = some a) : ItD T ρ H (.enumL l) (Ite T.K a) := by
  intro ρ1 D1 H1 u h i
  have ea := u.at ea
  obtain ⟨o, g, j⟩ := h.obj l a ea
  show match (match D1.get l with
      | some (.lst _ xs) => some (enumD (lat xs i) i)
      | _ => none) with
    | none => True
    | some none => (Ite T.K a).stop i H1
    | some (some d) => (Ite T.K a).go i H1 ∧ ∀ x H', (Ite T.K a).yld i H1 x H' → Up ρ1 H1 ρ1 H' ∧ HR T ρ1 D1 H' ∧ VR T ρ1 H' d x
  rw [g]
  cases o with
  | lst fz xs =>
    obtain ⟨vs, r1, s1⟩ := j.seqL
    dsimp only
    cases e : lat xs i with
    | none => exact ⟨vs, s1, by rw [r1.len]; exact lat_none e⟩
    | some d =>
      obtain ⟨v, h1, h2⟩ := r1.at (lat_some (α := Nat) e)
      refine ⟨⟨vs, v, s1, h1⟩, fun x H' y => ?_⟩
      obtain ⟨t, x', rfl, ht, rfl, q1⟩ := y
      have q1 := q1 vs s1
      rw [h1] at q1; cases q1
      exact ⟨up_new ht, h.new ht, t, _, rfl, SqT.of upd_same, _, _, rfl, rfl, _, _, rfl, h2.up (up_new (ρ := ρ1) ht), rfl⟩
  | _ => trivial
theorem ix_enumM (c : Cn T k X) (h : PA X [e] (rA T mr)) (hg : Gl X (Str.ofString "enumerate") := by rfl) (hm : X.mg (Str.ofString "enumerate") = none := by rfl)
    (hs : starEach [e] X.env = [(false, eval e X.env)] := by rfl) :
    PI X (.Tuple elts kk tpos) (.Call (.Name (Str.ofString "enumerate") p) [e] [] pos) (rI T (iEnumM mr)) := by
  refine PIw (pi_enumA hg hm h hs) fun σ H Q ⟨ρ, σd, D, sr, hr, p⟩ => ⟨ρ, σd, D, sr, hr, ?_⟩
  unfold iEnumM at p
  cases e1 : mr σd D with
  | bad => rw [e1] at p; exact p.elim
  | ok ds D1 =>
    rw [e1] at p
    intro ρ1 H1 vs u1 h1 r1
    split at p
    · rename_i xs D2 e2
      cases e2
      obtain ⟨v, rfl, ra⟩ := r1.one
      obtain ⟨a, us, rfl, sa, va⟩ := ra
      rw [c.K]
      exact ⟨a, us, rfl, .inr ⟨sa, p ρ1 H1 _ u1 h1 (itd_enumV sa va)⟩⟩
    · rename_i l D2 e2
      cases e2
      obtain ⟨v, rfl, ra⟩ := r1.one
      split at p
      · rename_i fz xs g
        obtain ⟨a, rfl, la, ja⟩ := h1.at ra g
        obtain ⟨us, va, sa⟩ := ja.seqL
        rw [c.K]
        exact ⟨a, us, rfl, .inl ⟨sa, p ρ1 H1 _ u1 h1 (itd_enumL la)⟩⟩
      · exact p.elim
    · exact p.elim
end
end FH

namespace FH
open PySem PySem.Spec PyProof.Rows L2

/-! ### fields -/
def fldD : List (Nat × DV) → Nat → Option DV
  | [], _ => none
  | (g, d) :: r, f => cond (Nat.beq g f) (some d) (fldD r f)
def putFD (f : Nat) (d : DV) : List (Nat × DV) → List (Nat × DV)
  | [] => [(f, d)]
  | (g, e) :: r => cond (Nat.beq g f) ((g, d) :: r) ((g, e) :: putFD f d r)
theorem putF_nil (f : Str) (v : V) : putF f v [] = [(f, v)] := rfl
theorem putF_cons (f g : Str) (v w : V) (r : List (Str × V)) : putF f v ((g, w) :: r) = if g = f then (g, v) :: r else (g, w) :: putF f v r := by
  first
    | rfl
    | (unfold putF; rfl)
section
variable {T : Tb} {ρ : List Addr} {H : Hp}
theorem FR.get {f : Nat} (hf : f < T.nf) : ∀ {fs : List (Nat × DV)} {gs : List (Str × V)} {d : DV}, FR T ρ H fs gs → fldD fs f = some d → ∃ v, gs.lookup (T.fld f) = some v ∧ VR T ρ H d v
  | [], _, _, _, e => by cases e
  | (g, x) :: r, _, d, h, e => by
    obtain ⟨v, r', rfl, h1, h2, h3⟩ := h
    unfold fldD at e
    cases q : Nat.beq g f with
    | true =>
      rw [q] at e; cases e
      have := Nat.eq_of_beq_eq_true q
      subst this
      exact ⟨v, by simp [List.lookup], h2⟩
    | false =>
      rw [q] at e
      have ne := Nat.ne_of_beq_eq_false q
      obtain ⟨w, a, b⟩ := FR.get hf h3 e
      refine ⟨w, ?_, b⟩
      have : (T.fld f == T.fld g) = false := by
        rw [beq_eq_false_iff_ne]
        exact fun z => ne (T.inj g f h1 hf z.symm)
      rw [List.lookup_cons, this]
      exact a
theorem FR.put {f : Nat} {d : DV} {v : V} (hf : f < T.nf) (hd : VR T ρ H d v) : ∀ {fs : List (Nat × DV)} {gs : List (Str × V)}, FR T ρ H fs gs → FR T ρ H (putFD f d fs) (putF (T.fld f) v gs)
  | [], _, h => by cases h; exact ⟨v, [], rfl, hf, hd, rfl⟩
  | (g, x) :: r, _, h => by
    obtain ⟨w, r', rfl, h1, h2, h3⟩ := h
    rw [putF_cons]
    unfold putFD
    cases q : Nat.beq g f with
    | true =>
      have := Nat.eq_of_beq_eq_true q
      subst this
      rw [if_pos rfl]
      exact ⟨v, r', rfl, h1, hd, h3⟩
    | false =>
      have ne := Nat.ne_of_beq_eq_false q
      rw [if_neg fun z => ne (T.inj g f h1 hf z)]
      exact ⟨w, _, rfl, h1, h2, FR.put hf hd h3⟩
theorem FR.len : ∀ {fs : List (Nat × DV)} {gs : List (Str × V)}, FR T ρ H fs gs → gs.length = fs.length
  | [], _, h => by cases h; rfl
  | (g, x) :: r, _, h => by
    obtain ⟨v, r', rfl, h1, h2, h3⟩ := h
    simp [FR.len h3]
end
/-- classes and fields: which class lacks which name -/
structure FldOk (T : Tb) (na : Nat → Nat → Bool) : Prop where
  cl : ∀ c f, na c f = true → Cls T.K (T.cls c)
  noat : ∀ c f, na c f = true → NoAttr T.K (T.cls c) (T.fld f)
  lt : ∀ c f, na c f = true → f < T.nf
def dCls (x : DV) (D : DH) : Option Nat := match x with
  | .loc l => (match D.get l with
    | some (.ins c _) => some c
    | _ => none)
  | _ => none
def dFld (na : Nat → Nat → Bool) (f : Nat) (x : DV) (D : DH) : R DV := match x with
  | .loc l => (match D.get l with
    | some (.ins c fs) => cond (na c f) (match fldD fs f with
      | some d => .ok d D
      | none => .bad) .bad
    | _ => .bad)
  | _ => .bad
def dPutF (na : Nat → Nat → Bool) (f : Nat) (x v : DV) (D : DH) : Option DH := match x with
  | .loc l => (match D.get l with
    | some (.ins c fs) => cond (na c f) (cond (Nat.blt fs.length 1000) (some (D.put l (.ins c (putFD f v fs)))) none) none
    | _ => none)
  | _ => none
theorem dPutF_ok {T : Tb} {na : Nat → Nat → Bool} (ok : FldOk T na) {f : Nat} {ρ : List Addr} {H : Hp} {D D' : DH} (h : HR T ρ D H) {x d : DV} {v u : V} (r1 : VR T ρ H x v) (r2 : VR T ρ H d u) (e : dPutF na f x d D = some D') :
    ∃ a C dx fs, v = .ref a ∧ H a = some (.ins C dx fs) ∧ Cls T.K C ∧ NoAttr T.K C (T.fld f) ∧ fs.length < 1000 ∧ Up ρ H ρ (upd H a (.ins C dx (putF (T.fld f) u fs))) ∧ HR T ρ D' (upd H a (.ins C dx (putF (T.fld f) u fs))) ∧ ∀ c, dCls x D = some c → C = T.cls c := by
  unfold dPutF at e
  split at e
  · split at e
    · rename_i l _ c fs g
      obtain ⟨c1, e1⟩ := cond_some e
      obtain ⟨c2, e2⟩ := cond_some e1
      obtain rfl := Option.some.inj e2
      obtain ⟨a, rfl, hl, dx, gs, rf, hd⟩ := h.at r1 g
      have u1 : Up ρ H ρ (upd H a (.ins (T.cls c) dx (putF (T.fld f) u gs))) := up_put hd trivial (fun _ z => by cases z)
      exact ⟨a, _, dx, gs, rfl, hd, ok.cl c f c1, ok.noat c f c1, by rw [rf.len]; exact blt_lt c2, u1, h.put hl hd trivial (fun _ z => by cases z) ⟨dx, _, FR.put (ok.lt c f c1) (r2.up u1) (rf.up u1), upd_same⟩, fun c' ec => by
        dsimp only [dCls] at ec
        rw [g] at ec
        cases ec; rfl⟩
    · cases e
  · cases e
def mFld (na : Nat → Nat → Bool) (f : Nat) (m : ME) : ME := mUn (dFld na f) m
def sFldM (na : Nat → Nat → Bool) (f : Nat) (mo mv : ME) : MS := fun σ D => match mv σ D with
  | .ok v D1 => (match mo σ D1 with
    | .ok x D2 => (match dPutF na f x v D2 with
      | some D3 => .nx σ D3
      | none => .bad)
    | .bad => .bad)
  | .bad => .bad
def gFld (na : Nat → Nat → Bool) (f : Nat) (mo : ME) : MG := fun d σ D => match mo σ D with
  | .ok x D1 => (match dPutF na f x d D1 with
    | some D2 => .ok σ D2
    | none => .bad)
  | .bad => .bad
def sFldAugM (na : Nat → Nat → Bool) (f : Nat) (op : DV → DV → DH → R DV) (mo mv : ME) : MS := fun σ D => match mo σ D with
  | .ok x D1 => (match dFld na f x D1 with
    | .ok d _ => (match mv σ D1 with
      | .ok y D2 => (match op d y D2 with
        | .ok z D3 => (match dCls x D1 with
          | some c1 => (match dCls x D3 with
            | some c3 => cond (Nat.beq c1 c3) (match dPutF na f x z D3 with
              | some D4 => .nx σ D4
              | none => .bad) .bad
            | none => .bad)
          | none => .bad)
        | .bad => .bad)
      | .bad => .bad)
    | .bad => .bad)
  | .bad => .bad
theorem cond_okS {T : Tb} {ρ : List Addr} {H : Hp} {c : Bool} {r : RS} {E : Ends} (p : pS T ρ H (cond c r .bad) E) : c = true ∧ pS T ρ H r E := by
  cases c with
  | true => exact ⟨rfl, p⟩
  | false => exact p.elim
section
variable {T : Tb} {k : Nat} {X : Cx} {na : Nat → Nat → Bool} {o e value : Expr} {mo mv m : ME} {pos pos' tpos : Pos} {fx : Str}
theorem dFld_ok {na : Nat → Nat → Bool} (ok : FldOk T na) {f : Nat} {ρ : List Addr} {H : Hp} {D D' : DH} (h : HR T ρ D H) {x d : DV} {v : V} (r1 : VR T ρ H x v) (e : dFld na f x D = .ok d D') :
    D' = D ∧ ∃ a C dx fs w, v = .ref a ∧ H a = some (.ins C dx fs) ∧ Cls T.K C ∧ NoAttr T.K C (T.fld f) ∧ fs.lookup (T.fld f) = some w ∧ VR T ρ H d w ∧ ∀ c, dCls x D = some c → C = T.cls c := by
  unfold dFld at e
  split at e
  · split at e
    · rename_i l _ c fs g
      cases c1 : na c f with
      | false => rw [c1] at e; cases e
      | true =>
        rw [c1, cond_true] at e
        cases g2 : fldD fs f with
        | none => rw [g2] at e; cases e
        | some d' =>
          rw [g2] at e
          obtain ⟨rfl, rfl⟩ : d' = d ∧ D = D' := by cases e; exact ⟨rfl, rfl⟩
          obtain ⟨a, rfl, hl, dx, gs, rf, hd⟩ := h.at r1 g
          obtain ⟨w, q1, q2⟩ := rf.get (ok.lt c f c1) g2
          exact ⟨rfl, a, _, dx, gs, w, rfl, hd, ok.cl c f c1, ok.noat c f c1, q1, q2, fun c' ec => by
            dsimp only [dCls] at ec
            rw [g] at ec
            cases ec; rfl⟩
    · cases e
  · cases e
theorem ex_fld (c : Cn T k X) (ok : FldOk T na) (f : Nat) (he : PE X e (rE T m)) (hf : T.fld f = fx := by rfl) (hb : attributeBase e fx X.env (eval e X.env) = eval e X.env := by rfl) : PE X (.Attribute e fx pos) (rE T (mFld na f m)) := by
  subst hf
  refine PEw (pe_fld he hb) fun σ H Q q => ?_
  refine tUn_of (T := T) (r := fun x H1 Q => ∃ a C dx fs v, x = .ref a ∧ H1 a = some (.ins C dx fs) ∧ Cls X.K C ∧ NoAttr X.K C (T.fld f) ∧ fs.lookup (T.fld f) = some v ∧ Q v H1) (fun x H Q ⟨ρ, D, d, h, r, p⟩ => ?_) q
  cases e1 : dFld na f d D with
  | bad => rw [e1] at p; exact p.elim
  | ok d' D' =>
    rw [e1] at p
    obtain ⟨rfl, a, C, dx, fs, w, rfl, hd, q1, q2, q3, q4, _⟩ := dFld_ok ok h r e1
    exact ⟨a, C, dx, fs, w, rfl, hd, by rw [c.K]; exact q1, by rw [c.K]; exact q2, q3, pE_ok h q4 p⟩
theorem sx_fld (c : Cn T k X) (ok : FldOk T na) (f : Nat) (ho : PE X o (rE T mo)) (hv : PE X value (rE T mv)) (hf : T.fld f = fx := by rfl) (hs : swapsWith value (some (.Attribute o fx pos')) pos.line X.env = pure false := by rfl) : PS X (.Assign [.Attribute o fx pos'] value pos) (rS T (sFldM na f mo mv)) := by
  subst hf
  refine PSw (ps_fld ho hv hs) fun E σ H ⟨ρ, σd, D, sr, hr, p⟩ => ⟨ρ, σd, D, sr, hr, ?_⟩
  unfold sFldM at p
  cases e1 : mv σd D with
  | bad => rw [e1] at p; exact p.elim
  | ok v D1 =>
    rw [e1] at p
    intro ρ1 H1 v' u1 h1 r1
    refine ⟨ρ1, σd, D1, sr.up u1, h1, ?_⟩
    dsimp only at p
    cases e2 : mo σd D1 with
    | bad => rw [e2] at p; exact p.elim
    | ok x D2 =>
      rw [e2] at p
      intro ρ2 H2 x' u2 h2 r2
      dsimp only at p
      cases e3 : dPutF na f x v D2 with
      | none => rw [e3] at p; exact p.elim
      | some D3 =>
        rw [e3] at p
        obtain ⟨a, C, dx, fs, rfl, hd, q1, q2, q3, u3, h3, _⟩ := dPutF_ok ok h2 r2 (r1.up u2) e3
        have u := u1.trans (u2.trans u3)
        exact ⟨a, C, dx, fs, rfl, hd, by rw [c.K]; exact q1, by rw [c.K]; exact q2, q3, p ρ2 _ σ u h3 (sr.up u)⟩
theorem pg_fld {X : Cx} {o : Expr} {f : Str} {pos : Pos} {ta : TE} (ha : PE X o ta) : PG X (.Attribute o f pos) (fun v σ H Q => ta σ H fun x H2 => ∃ a C dx fs, x = .ref a ∧ H2 a = some (.ins C dx fs) ∧ Cls X.K C ∧ NoAttr X.K C f ∧ fs.length < 1000 ∧ Q σ (upd H2 a (.ins C dx (putF f v fs)))) := by
  refine ⟨fun pins s σ H v u Q I r h => ?_⟩
  unfold assign
  refine wpAny_bind (wpAny_holding (thn (ha.run pins s σ H _ I h) fun ov s1 ⟨x, H1, I1, r1, a, C, dx, fs, ex, ea, c, n, l, q⟩ => ?_))
  subst ex
  cases r1
  refine wpAny_bind (wpAny_standAt (wpAny_bind (wpAny_holding (setattr_ok I1 ea c n l r fun s2 I2 => ?_))))
  exact wpAny_release ⟨σ, _, I2, q⟩
theorem gx_fld (c : Cn T k X) (ok : FldOk T na) (f : Nat) (ho : PE X o (rE T mo)) (hf : T.fld f = fx := by rfl) : PG X (.Attribute o fx pos) (rG T [] (gFld na f mo)) := by
  subst hf
  refine PGw (pg_fld ho) fun v σ H Q ⟨ρ, σd, D, d, sr, hr, r, p⟩ => ⟨ρ, σd, D, sr, hr, ?_⟩
  unfold gFld at p
  cases e1 : mo σd D with
  | bad => rw [e1] at p; exact p.elim
  | ok x D1 =>
    rw [e1] at p
    intro ρ1 H1 x' u1 h1 r1
    dsimp only at p
    cases e2 : dPutF na f x d D1 with
    | none => rw [e2] at p; exact p.elim
    | some D2 =>
      rw [e2] at p
      obtain ⟨a, C, dx, fs, rfl, hd, q1, q2, q3, u3, h3, _⟩ := dPutF_ok ok h1 r1 (r.up u1) e2
      have u := u1.trans u3
      exact ⟨a, C, dx, fs, rfl, hd, by rw [c.K]; exact q1, by rw [c.K]; exact q2, q3, p ρ1 _ σ u h3 (sr.up u) (Agree.refl _ _)⟩
theorem InOpw {op : Operator} {r r' : V → V → Hp → VK → Prop} (h : InOp X op r) (w : ∀ x y H Q, r' x y H Q → r x y H Q) : InOp X op r' := fun pins s σ H x y u v Q I rx ry q => h pins s σ H x y u v Q I rx ry (w _ _ _ _ q)
def dAddI : DV → DV → DH → R DV
  | .int i, .int j, D => .ok (.int (Int.add i j)) D
  | _, _, _ => .bad
def dSubI : DV → DV → DH → R DV
  | .int i, .int j, D => .ok (.int (Int.sub i j)) D
  | _, _, _ => .bad
theorem in_addM : InOp X .Add (r2 T dAddI) := InOpw in_add fun x y H Q ⟨ρ, D, a, b, h, ra, rb, p⟩ => by
  unfold dAddI at p
  split at p
  · cases ra; cases rb
    exact ⟨_, _, rfl, rfl, pE_ok h (d := .int _) rfl p⟩
  · exact p.elim
theorem in_subM : InOp X .Sub (r2 T dSubI) := InOpw in_sub fun x y H Q ⟨ρ, D, a, b, h, ra, rb, p⟩ => by
  unfold dSubI at p
  split at p
  · cases ra; cases rb
    exact ⟨_, _, rfl, rfl, pE_ok h (d := .int _) rfl p⟩
  · exact p.elim
theorem ip_addM : PIp X .Add (r2 T dAddI) := fun pins s σ H x y v u Q I rx ry ⟨ρ, D, a, b, h, ra, rb, p⟩ => by
  unfold dAddI at p
  split at p
  · cases ra; cases rb
    exact ip_add pins s σ H _ _ v u Q I rx ry ⟨_, _, rfl, rfl, pE_ok h (d := .int _) rfl p⟩
  · exact p.elim
theorem ip_subM : PIp X .Sub (r2 T dSubI) := fun pins s σ H x y v u Q I rx ry ⟨ρ, D, a, b, h, ra, rb, p⟩ => by
  unfold dSubI at p
  split at p
  · cases ra; cases rb
    exact ip_sub pins s σ H _ _ v u Q I rx ry ⟨_, _, rfl, rfl, pE_ok h (d := .int _) rfl p⟩
  · exact p.elim
theorem sx_fldaug {op : Operator} {f' : DV → DV → DH → R DV} (c : Cn T k X) (ok : FldOk T na) (f : Nat) (ho : PE X o (rE T mo)) (hv : PE X value (rE T mv)) (hop : InOp X op (r2 T f')) (hf : T.fld f = fx := by rfl) : PS X (.AugAssign (.Attribute o fx tpos) op value pos) (rS T (sFldAugM na f f' mo mv)) := by
  subst hf
  refine PSw (ps_fldaug ho hv hop) fun E σ H ⟨ρ, σd, D, sr, hr, p⟩ => ⟨ρ, σd, D, sr, hr, ?_⟩
  unfold sFldAugM at p
  cases e1 : mo σd D with
  | bad => rw [e1] at p; exact p.elim
  | ok x D1 =>
    rw [e1] at p
    intro ρ1 H1 x' u1 h1 r1
    dsimp only at p
    cases e2 : dFld na f x D1 with
    | bad => rw [e2] at p; exact p.elim
    | ok d D' =>
      rw [e2] at p
      obtain ⟨rfl, a, C, dx, fs, w, rfl, hd, q1, q2, q3, q4, qc⟩ := dFld_ok ok h1 r1 e2
      refine ⟨a, C, dx, fs, w, rfl, hd, by rw [c.K]; exact q1, by rw [c.K]; exact q2, q3, ρ1, σd, D', sr.up u1, h1, ?_⟩
      dsimp only at p
      cases e3 : mv σd D' with
      | bad => rw [e3] at p; exact p.elim
      | ok y D2 =>
        rw [e3] at p
        intro ρ2 H2 y' u2 h2 r2
        refine ⟨ρ2, D2, d, y, h2, q4.up u2, r2, ?_⟩
        dsimp only at p
        cases e4 : f' d y D2 with
        | bad => rw [e4] at p; exact p.elim
        | ok z D3 =>
          rw [e4] at p
          intro ρ3 H3 z' u3 h3 r3
          dsimp only at p
          split at p
          · rename_i c1 ec1
            split at p
            · rename_i c3 ec3
              obtain ⟨cb, pp⟩ := cond_okS p; clear p; have p := pp; clear pp
              have := Nat.eq_of_beq_eq_true cb
              subst this
              cases e5 : dPutF na f x z D3 with
              | none => rw [e5] at p; exact p.elim
              | some D4 =>
                rw [e5] at p
                obtain ⟨b, C', dx', fs', e6, hd', s1, s2, s3, u4, h4, qc'⟩ := dPutF_ok ok h3 (r1.up (u2.trans u3)) r3 e5
                obtain rfl : a = b := by cases e6; rfl
                have hC : C' = C := (qc' _ ec3).trans (qc _ ec1).symm
                subst hC
                have u := u1.trans (u2.trans (u3.trans u4))
                exact ⟨dx', fs', hd', s3, p ρ3 _ σ u h4 (sr.up u)⟩
            · exact p.elim
          · exact p.elim
theorem sx_aug {op : Operator} {f' : DV → DV → DH → R DV} (c : Cn T k X) (i : Nat) {x : Str} (he : PE X e (rE T m)) (ho : PIp X op (r2 T f')) (hi : X.N[i]? = some x := by rfl) (hx : Loc X.env.scope x := by first | exact Or.inl rfl | exact Or.inr rfl)
    (hf : X.fn x = true ∨ X.env.scope.names.lookup x = some .local := by first | exact .inl rfl | exact .inr rfl | assumption) : PS X (.AugAssign (.Name x pos') op e pos) (rS T (sSet i (mBin f' (mVar i) m))) := by
  refine PSw (ps_aug c.nd hi hx he ho hf) fun E σ H ⟨ρ, σd, D, sr, hr, p⟩ => ?_
  unfold sSet mBin mVar at p
  cases e0 : lget σd i with
  | none => rw [e0] at p; exact p.elim
  | some d =>
    rw [e0] at p
    dsimp only at p
    obtain ⟨na, p⟩ : notAct d = true ∧ pS T ρ H (match (match m σd D with
      | .ok y D2 => f' d y D2
      | .bad => .bad : R DV) with
      | .ok d D1 => .nx (σd.set i (some d)) D1
      | .bad => .bad) E := by
      cases na : notAct d with
      | false => rw [na] at p; exact p.elim
      | true => rw [na] at p; exact ⟨rfl, p⟩
    obtain ⟨v, ev, rv⟩ := sr.at e0 na
    refine ⟨v, ev, ρ, σd, D, sr, hr, ?_⟩
    cases e1 : m σd D with
    | bad => rw [e1] at p; exact p.elim
    | ok y D1 =>
      rw [e1] at p
      intro ρ1 H1 y' u1 h1 r1
      refine ⟨ρ1, D1, d, y, h1, rv.up u1, r1, ?_⟩
      dsimp only at p
      cases e2 : f' d y D1 with
      | bad => rw [e2] at p; exact p.elim
      | ok z D2 =>
        rw [e2] at p
        exact fun ρ2 H2 z' u2 h2 r2 => p ρ2 H2 _ (u1.trans u2) h2 ((sr.up (u1.trans u2)).set (d := some z) (o := some z') (OR.mk r2) i)
/-- two targets -/
def sAsg2 (g1 g2 : MG) (m : ME) : MS := fun σ D => match m σ D with
  | .ok d D1 => (match g1 d σ D1 with
    | .ok σ1 D2 => (match g2 d σ1 D2 with
      | .ok σ2 D3 => .nx σ2 D3
      | .bad => .bad)
    | .bad => .bad)
  | .bad => .bad
theorem sx_asg2 {t1 t2 : Expr} {g1 g2 : MG} {is js : List Nat} (he : PE X e (rE T m)) (hg1 : PG X t1 (rG T is g1)) (hg2 : PG X t2 (rG T js g2))
    (h1 : (assignEach [t1, t2] X.env).map (·.2) = [assign t1 X.env, assign t2 X.env] := by rfl) (hw : swappedStores [t1, t2] e X.env = pure none := by rfl) : PS X (.Assign [t1, t2] e pos) (rS T (sAsg2 g1 g2 m)) := by
  refine PSw (ps_asg2 he hg1 hg2 h1 hw) fun E σ H ⟨ρ, σd, D, sr, hr, p⟩ => ⟨ρ, σd, D, sr, hr, ?_⟩
  unfold sAsg2 at p
  cases e1 : m σd D with
  | bad => rw [e1] at p; exact p.elim
  | ok d D1 =>
    rw [e1] at p
    intro ρ1 H1 v u1 h1 r1
    refine ⟨ρ1, σd, D1, d, sr.up u1, h1, r1, ?_⟩
    dsimp only at p
    cases e2 : g1 d σd D1 with
    | bad => rw [e2] at p; exact p.elim
    | ok σ1 D2 =>
      rw [e2] at p
      intro ρ2 H2 σ2 u2 h2 s2 _
      refine ⟨ρ2, σ1, D2, d, s2, h2, r1.up u2, ?_⟩
      dsimp only at p
      cases e3 : g2 d σ1 D2 with
      | bad => rw [e3] at p; exact p.elim
      | ok σ3 D3 =>
        rw [e3] at p
        exact fun ρ3 H3 σ4 u3 h3 s3 _ => p ρ3 H3 σ4 (u1.trans (u2.trans u3)) h3 s3
end
end FH

namespace FH
open PySem PySem.Spec PyProof.Rows L2

/-! ### methods of lists -/
def isLst (x : DV) (D : DH) : Bool := match x with
  | .loc l => (match D.get l with
    | some (.lst _ _) => true
    | _ => false)
  | _ => false
theorem isLst_ok {T : Tb} {ρ : List Addr} {H : Hp} {D : DH} (h : HR T ρ D H) {x : DV} {v : V} (r : VR T ρ H x v) (e : isLst x D = true) : tyV T.K "list" v H := by
  unfold isLst at e
  split at e
  · split at e
    · rename_i l _ fz xs g
      obtain ⟨a, rfl, _, j⟩ := h.at r g
      obtain ⟨vs, _, s⟩ := j.seqL
      exact .inl ⟨rfl, vs, s⟩
    · cases e
  · cases e
def mBM (f : DV → List DV → DH → R DV) (mo : ME) (mr : MA) : ME := fun σ D => match mo σ D with
  | .ok x D1 => cond (isLst x D1) (match mr σ D1 with
    | .ok xs D2 => f x xs D2
    | .bad => .bad) .bad
  | .bad => .bad
def rM (T : Tb) (f : DV → List DV → DH → R DV) : V → List V → Hp → VK → Prop := fun x xs H Q => ∃ ρ D a as, HR T ρ D H ∧ VR T ρ H a x ∧ VRs T ρ H as xs ∧ pE T ρ H (f a as D) Q
theorem MtRw {X : Cx} {id : String} {r r' : V → List V → Hp → VK → Prop} (h : MtR X id r) (w : ∀ x xs H Q, r' x xs H Q → r x xs H Q) : MtR X id r' := fun pins s σ H x xs v us Q I rx rs q => h pins s σ H x xs v us Q I rx rs (w _ _ _ _ q)
section
variable {T : Tb} {k : Nat} {X : Cx} {o e : Expr} {es : List Expr} {mo : ME} {mr : MA} {apos cpos : Pos} {f : DV → List DV → DH → R DV} {name : Str} {id : String}
theorem bm_read {r : V → List V → Hp → VK → Prop} (c : Cn T k X) (w : ∀ x xs H Q, rM T f x xs H Q → r x xs H Q) {σ : L2.St} {H : Hp} {Q : VK} (q : rE T (mBM f mo mr) σ H Q) : tBM X.K "list" r (rE T mo) (rA T mr) σ H Q := by
  obtain ⟨ρ, σd, D, sr, hr, p⟩ := q
  refine ⟨ρ, σd, D, sr, hr, ?_⟩
  unfold mBM at p
  cases e1 : mo σd D with
  | bad => rw [e1] at p; exact p.elim
  | ok x D1 =>
    rw [e1] at p
    intro ρ1 H1 v u1 h1 r1
    obtain ⟨cl, p⟩ := cond_ok p
    refine ⟨by rw [c.K]; exact isLst_ok h1 r1 cl, ρ1, σd, D1, sr.up u1, h1, ?_⟩
    cases e2 : mr σd D1 with
    | bad => rw [e2] at p; exact p.elim
    | ok xs D2 =>
      rw [e2] at p
      intro ρ2 H2 vs u2 h2 r2
      exact w _ _ _ _ ⟨ρ2, D2, x, xs, h2, r1.up u2, r2, pE.up (u1.trans u2) p⟩
theorem ex_bm (c : Cn T k X) (slot : Slot "list" name id) (ty : typeOf (.builtin id) = pure (.type "method_descriptor")) (hm : MtR X id (rM T f)) (ho : PE X o (rE T mo)) (hr : PA X (e :: es) (rA T mr))
    (h1 : attributeBase o name X.env (eval o X.env) = eval o X.env := by rfl)
    (h2 : ((((backTo cpos (starEach (e :: es) X.env)).all fun x => !x.1) && (backToKw cpos (keywordEach [] X.env)).all fun x => x.1.isSome) && decide (((e :: es).length + ([] : List Keyword).length + if ([] : List Keyword).isEmpty = true then 0 else 1) < 30)) = true := by rfl)
    (h3 : (apos.endLine == cpos.line) = true := by rfl) (h4 : starEach (e :: es) X.env = (false, eval e X.env) :: starEach es X.env := by rfl) (h5 : ((backTo cpos (starEach es X.env)).any fun x => x.1) = false := by rfl) :
    PE X (.Call (.Attribute o name apos) (e :: es) [] cpos) (rE T (mBM f mo mr)) :=
  PEw (pe_bm PySem.F.plainAttrs_list slot ty hm ho hr h1 h2 h3 h4 h5) fun σ H Q q => bm_read c (fun _ _ _ _ z => z) q
end
def fAppend (x : DV) (xs : List DV) (D : DH) : R DV := match x, xs with
  | .loc l, [y] => (match appD D l y with
    | some D1 => .ok .non D1
    | none => .bad)
  | _, _ => .bad
theorem mt_appendM {T : Tb} {X : Cx} : MtR X "list.append" (rM T fAppend) := MtRw mt_append fun x xs H Q ⟨ρ, D, a, as, h, ra, rs, p⟩ => by
  unfold fAppend at p
  split at p
  · rename_i l y
    obtain ⟨w, rfl, ry⟩ := rs.one
    split at p
    · rename_i D1 e
      obtain ⟨b, hl, rfl⟩ := ra
      obtain ⟨acc, a1, a2, u, h1⟩ := appD_ok h hl ry e
      exact ⟨b, acc, w, rfl, rfl, a1, a2, p ρ _ .non u h1 rfl⟩
    · exact p.elim
  · exact p.elim
def fExtend (x : DV) (xs : List DV) (D : DH) : R DV := match x, xs with
  | .loc l, [.loc m] => (match D.get l with
    | some (.lst false ys) => (match D.get m with
      | some (.lst false zs) => cond (Nat.ble (Nat.add ys.length zs.length) lineN) (.ok .non (D.put l (.lst false (ys ++ zs)))) .bad
      | _ => .bad)
    | _ => .bad)
  | _, _ => .bad
theorem mt_extendM {T : Tb} {X : Cx} : MtR X "list.extend" (rM T fExtend) := MtRw mt_extend fun x xs H Q ⟨ρ, D, a, as, h, ra, rs, p⟩ => by
  unfold fExtend at p
  split at p
  · rename_i l m
    obtain ⟨w, rfl, ry⟩ := rs.one
    split at p
    · rename_i ys g
      split at p
      · rename_i zs g2
        obtain ⟨c, p⟩ := cond_ok p
        obtain ⟨b, rfl, hl, vs, rv, hd⟩ := h.at ra g
        obtain ⟨b2, rfl, hl2, ws, rw', hd2⟩ := h.at ry g2
        have u1 : Up ρ H ρ (upd H b (.lst (vs ++ ws))) := up_put hd trivial (fun _ z => by cases z)
        refine ⟨b, b2, vs, ws, rfl, rfl, hd, hd2, by rw [rv.len, rw'.len]; exact ble_line c, p ρ _ .non u1 (h.put hl hd trivial (fun _ z => by cases z) ⟨_, VRs.app (rv.up u1) (rw'.up u1), upd_same⟩) rfl⟩
      · exact p.elim
    · exact p.elim
  · exact p.elim
def fInsert (x : DV) (xs : List DV) (D : DH) : R DV := match x, xs with
  | .loc l, [.int (.ofNat i), y] => (match D.get l with
    | some (.lst false ys) => cond (lineLt ys.length) (cond (Nat.blt i 1000000000) (.ok .non (D.put l (.lst false (ys.take i ++ [y] ++ ys.drop i)))) .bad) .bad
    | _ => .bad)
  | _, _ => .bad
theorem lt63 {i : Nat} (h : i < 1000000000) : (i : Int) < 2 ^ 63 := by
  have : (2 : Int) ^ 63 = 9223372036854775808 := by decide
  omega
theorem mt_insertM {T : Tb} {X : Cx} : MtR X "list.insert" (rM T fInsert) := MtRw mt_insert fun x xs H Q ⟨ρ, D, a, as, h, ra, rs, p⟩ => by
  unfold fInsert at p
  split at p
  · rename_i l i y
    obtain ⟨v, w, rfl, ri, ry⟩ := rs.two
    cases ri
    split at p
    · rename_i ys g
      obtain ⟨c, p⟩ := cond_ok p
      obtain ⟨c2, p⟩ := cond_ok p
      obtain ⟨b, rfl, hl, vs, rv, hd⟩ := h.at ra g
      have u1 : Up ρ H ρ (upd H b (.lst (vs.take i ++ [w] ++ vs.drop i))) := up_put hd trivial (fun _ z => by cases z)
      have hi := blt_lt c2
      refine ⟨b, vs, (i : Nat), w, rfl, rfl, hd, by rw [rv.len]; exact lineLt_ok c, Int.natCast_nonneg _, lt63 hi, ?_⟩
      rw [Int.toNat_natCast]
      exact p ρ _ .non u1 (h.put hl hd trivial (fun _ z => by cases z) ⟨_, VRs.app (VRs.app ((rv.up u1).take i) ⟨w, [], rfl, ry.up u1, rfl⟩) ((rv.up u1).drop i), upd_same⟩) rfl
    · exact p.elim
  · exact p.elim

/-! ### isinstance(x, (T1, T2)) -/
def cns : List DV → Option (List Nat)
  | [] => some []
  | .cn u :: r => (match cns r with
    | some t => some (u :: t)
    | none => none)
  | _ :: _ => none
def isiAny (nc t : Nat) : List Nat → Option Bool
  | [] => some false
  | u :: r => (match isiN nc t u with
    | some b => (match isiAny nc t r with
      | some c => some (cond b true c)
      | none => none)
    | none => none)
theorem cns_ok {T : Tb} {ρ : List Addr} {H : Hp} (hn : T.nc ≤ 1000) {t : Nat} (kt : KitOk T) : ∀ {ds : List DV} {us : List Nat} {vs : List V} {b : Bool}, cns ds = some us → VRs T ρ H ds vs → isiAny T.nc t us = some b →
    ∃ ws, Paired ClsV vs ws ∧ PySem.W.kitAny T.K (tyVal T t) ws = some b
  | [], us, vs, b, h, r, e => by cases h; cases r; cases e; exact ⟨[], .nil, rfl⟩
  | d :: ds, us, vs, b, h, r, e => by
    cases d with
    | cn u =>
      unfold cns at h
      cases g : cns ds with
      | none => rw [g] at h; cases h
      | some t' =>
        rw [g] at h; cases h
        obtain ⟨v, w, rfl, h1, h2⟩ := r
        unfold isiAny at e
        cases g2 : isiN T.nc t u with
        | none => rw [g2] at e; cases e
        | some b' =>
          rw [g2] at e
          dsimp only at e
          cases g3 : isiAny T.nc t t' with
          | none => rw [g3] at e; cases e
          | some c' =>
            rw [g3] at e
            obtain ⟨i1, i2, i3⟩ := isiN_ok kt g2
            have cl := cn_ok (i2.imp id fun h => ⟨h.1, by omega⟩) h1
            obtain ⟨ws, pw, kw⟩ := cns_ok hn kt g h2 g3
            refine ⟨_ :: ws, .cons cl pw, ?_⟩
            rw [PySem.W.kitAny.eq_2, i3]
            cases b' with
            | true => cases e; rfl
            | false => cases e; exact kw
    | _ => cases h
def mIsiT (nc : Nat) (a : ME) (mr : MA) : ME := fun σ D => match a σ D with
  | .ok x D1 => (match mr σ D1 with
    | .ok us D2 => cond (Nat.ble us.length lineN) (match tyD D2 x with
      | some t => (match cns us with
        | some ns => (match isiAny nc t ns with
          | some b => cond (orB (Nat.blt t 7) (andB (Nat.ble 16 t) (Nat.blt (Nat.sub t 16) nc))) (.ok (.bl b) D2) .bad
          | none => .bad)
        | none => .bad)
      | none => .bad) .bad
    | .bad => .bad)
  | .bad => .bad
where
  orB (a b : Bool) : Bool := cond a true b
  andB (a b : Bool) : Bool := cond a b false
section
variable {T : Tb} {k : Nat} {X : Cx} {a : Expr} {es : List Expr} {ma : ME} {mr : MA} {p pos tpos : Pos} {kk : Nat}
theorem ex_isiT (c : Cn T k X) (kt : KitOk T) (hn : T.nc ≤ 1000) {nc : Nat} (en : T.nc = nc) (ha : PE X a (rE T ma)) (hr : PA X es (rA T mr)) (hg : Gl X (Str.ofString "isinstance") := by rfl) (hm : X.mg (Str.ofString "isinstance") = none := by rfl)
    (hs : starEach [a, .Tuple es kk tpos] X.env = (false, eval a X.env) :: starEach [.Tuple es kk tpos] X.env := by rfl) (hs' : starEach [.Tuple es kk tpos] X.env = (false, eval (.Tuple es kk tpos) X.env) :: starEach [] X.env := by rfl)
    (h4 : ((backTo pos (starEach [.Tuple es kk tpos] X.env)).any fun x => x.1) = false := by rfl) (hv : bootBuiltins (Str.ofString "isinstance") = some (.builtin "isinstance") := by rfl) :
    PE X (.Call (.Name (Str.ofString "isinstance") p) [a, .Tuple es kk tpos] [] pos) (rE T (mIsiT nc ma mr)) := by
  subst en
  refine PEw (pe_callB call_isiT hg hm hv (pa_cons ha (pa_cons (pe_tup hr) pa_nil hs') hs) (by decide) (by decide) hs h4) fun σ H Q ⟨ρ, σd, D, sr, h, p⟩ => ⟨ρ, σd, D, sr, h, ?_⟩
  unfold mIsiT at p
  cases e1 : ma σd D with
  | bad => rw [e1] at p; exact p.elim
  | ok x D1 =>
    rw [e1] at p
    intro ρ1 H1 v u1 h1 r1
    refine ⟨ρ1, σd, D1, sr.up u1, h1, ?_⟩
    dsimp only at p
    cases e2 : mr σd D1 with
    | bad => rw [e2] at p; exact p.elim
    | ok us D2 =>
      rw [e2] at p
      intro ρ2 H2 vs u2 h2 r2
      obtain ⟨cl, p⟩ := cond_ok p
      refine ⟨by rw [r2.len]; exact ble_line cl, fun q hq => ?_⟩
      cases e3 : tyD D2 x with
      | none => rw [e3] at p; exact p.elim
      | some t =>
        rw [e3] at p
        dsimp only at p
        cases e4 : cns us with
        | none => rw [e4] at p; exact p.elim
        | some ns =>
          rw [e4] at p
          dsimp only at p
          cases e5 : isiAny T.nc t ns with
          | none => rw [e5] at p; exact p.elim
          | some b =>
            rw [e5] at p
            obtain ⟨cb, p⟩ := cond_ok p
            have u3 : Up ρ2 H2 ρ2 (upd H2 q (.tup vs)) := up_new hq
            obtain ⟨ws, pw, kw⟩ := cns_ok hn kt e4 r2 e5
            have tb : t < 7 ∨ (16 ≤ t ∧ t - 16 < T.nc) := by
              cases z : Nat.blt t 7 with
              | true => exact .inl (blt_lt z)
              | false =>
                rw [z] at cb
                cases z2 : Nat.ble 16 t with
                | true =>
                  rw [z2] at cb
                  exact .inr ⟨Nat.le_of_ble_eq_true z2, blt_lt cb⟩
                | false => rw [z2] at cb; cases cb
            refine ⟨v, q, vs, tyVal T t, ws, b, rfl, upd_same, pw, ?_, by rw [c.K]; exact kw, p ρ2 _ (.bl b) (u1.trans (u2.trans u3)) (h2.new hq) rfl⟩
            rw [c.K]
            exact tyD_ok kt (h2.new hq) ((r1.up u2).up u3) e3 tb
end
end FH

namespace FH
open PySem PySem.Spec PyProof.Rows L2

/-! ### defs -/
abbrev MF := List DV → DH → R DV
/-- the slots at a def's start -/
def pad : Nat → DL
  | 0 => []
  | n + 1 => none :: pad n
def startD (xs : List DV) (n : Nat) : DL := match xs with
  | [] => pad n
  | x :: r => some x :: startD r n
/-- np parameters, nr other names -/
def mDef (np nr : Nat) (b : MS) : MF := fun xs D => cond (Nat.beq xs.length np) (match b (startD xs nr) D with
  | .rt d D1 => .ok d D1
  | .nx _ D1 => .ok .non D1
  | _ => .bad) .bad
def spM (T : Tb) (np : Nat) (f : MF) : Sp := fun vs H Q _ => vs.length = np ∧ ∃ ρ D as, HR T ρ D H ∧ VRs T ρ H as vs ∧ pE T ρ H (f as D) Q
theorem pad_sr {T : Tb} {ρ : List Addr} {H : Hp} : ∀ n, SR T ρ H (pad n) (List.replicate n none)
  | 0 => rfl
  | n + 1 => ⟨none, _, rfl, trivial, pad_sr n⟩
theorem start_sr {T : Tb} {ρ : List Addr} {H : Hp} {n : Nat} : ∀ {xs : List DV} {vs : List V}, VRs T ρ H xs vs → SR T ρ H (startD xs n) (vs.map some ++ List.replicate n none)
  | [], _, h => by cases h; exact pad_sr n
  | x :: xs, _, h => by
    obtain ⟨v, r, rfl, h1, h2⟩ := h
    exact ⟨some v, _, rfl, OR.mk h1, start_sr h2⟩
/-- the context of a def's body -/
abbrev cxM (T : Tb) (N : List Str) (qual : Str) (st : Stmt) (f : Addr) (cdv : Value) (A : Around) (outer : List Env) (s : Shared) (H : Hp) (E : XK) : Cx := Cx.nox (cxOf CX0 T.P T.w T.K T.mg T.base N qual (defScope st) f cdv A outer s H E)
theorem def_ok {T : Tb} {k : Nat} {x qual : Str} {st : Stmt} {f : Addr} {fd : FuncData} {N ps : List Str} {b : MS} (np nr : Nat) (F : Fun T.K x qual st f fd) (sc : FnScope N ps (defScope st)) (hp : ps.length = np) (hr : N.length = np + nr)
    (h : ∀ (cdv : Value) (A : Around) (outer : List Env) (s : Shared) (H : Hp) (E : XK), Cn T k (cxM T N qual st f cdv A outer s H E) → PSs (cxM T N qual st f cdv A outer s H E) (defBody st) (rS T b)) :
    FnOk T.P T.w T.K T.mg T.base CX0 (k + 1) f fd ps (spM T np (mDef np nr b)) := by
  refine F.ok sc (fun vs H Q E q => q.1.trans hp.symm) (fun cdv A outer s H vs Q E room q => ?_)
  have c : Cn T k (cxM T N qual st f cdv A outer s H E) := ⟨rfl, rfl, rfl, rfl, rfl, rfl, sc.nd, room, rfl⟩
  refine ⟨_, h cdv A outer s H E c, ?_⟩
  obtain ⟨hl, ρ, D, as, hh, ra, p⟩ := q
  unfold mDef at p
  obtain ⟨_, p⟩ := cond_ok p
  have sr : SR T ρ H (startD as nr) (L2.start N vs) := by
    unfold L2.start
    rw [show N.length - vs.length = nr by rw [hr, hl]; omega]
    exact start_sr ra
  refine ⟨ρ, startD as nr, D, sr, hh, ?_⟩
  cases e : b (startD as nr) D with
  | rt d D1 => rw [e] at p; exact p
  | nx σ1 D1 => rw [e] at p; exact fun ρ' H' σ' u h' _ => p ρ' H' .non u h' rfl
  | bk σ1 D1 => rw [e] at p; exact p.elim
  | ct σ1 D1 => rw [e] at p; exact p.elim
  | bad => rw [e] at p; exact p.elim
theorem fn_bad {T : Tb} {k : Nat} {f : Addr} {fd : FuncData} {ps : List Str} {np : Nat} : FnOk T.P T.w T.K T.mg T.base CX0 k f fd ps (spM T np fun _ _ => .bad) :=
  ⟨fun vs H Q E ⟨_, _, _, _, _, _, p⟩ => p.elim, fun A outer s H args us vs Q E _ _ _ _ ⟨_, _, _, _, _, _, p⟩ => p.elim⟩
/-- a def that stands in the module under x -/
structure DefAt (T : Tb) (k : Nat) (x : Str) (np : Nat) (g : MF) : Prop where
  ex : ∃ f fd ps, T.mg x = some (.ref f) ∧ PySem.W.keepIn T.K (.ref f) = true ∧ L2.Binds T.K fd ps [] ∧ FnOk T.P T.w T.K T.mg T.base CX0 k f fd ps (spM T np g)
/-- a method m of class number c -/
structure MethAt (T : Tb) (k : Nat) (c : Nat) (m : Str) (np : Nat) (g : MF) : Prop where
  ex : ∃ f fd ps, Cls T.K (T.cls c) ∧ Meth T.K (T.cls c) m f ∧ L2.Binds T.K fd ps [] ∧ FnOk T.P T.w T.K T.mg T.base CX0 k f fd ps (spM T np g)
/-- a property m of class number c -/
structure PropAt (T : Tb) (k : Nat) (c : Nat) (m : Str) (g : MF) : Prop where
  ex : ∃ pr f fd ps, Cls T.K (T.cls c) ∧ PropOf T.K (T.cls c) m pr f ∧ L2.Binds T.K fd ps [] ∧ FnOk T.P T.w T.K T.mg T.base CX0 k f fd ps (spM T 1 g)
/-- the class x, number c, made by its __init__ with arguments by place -/
structure MakeAt (T : Tb) (k : Nat) (x : Str) (c : Nat) (np : Nat) (g : MF) : Prop where
  ex : ∃ f fd ps, T.mg x = some (.ref (T.cls c)) ∧ Mk T.K (T.cls c) f ∧ L2.Binds T.K fd ps [] ∧ FnOk T.P T.w T.K T.mg T.base CX0 k f fd ps (spM T np g)
def mMeth (c : Nat) (hid : Nat → Bool) (g : MF) (mo : ME) (mr : MA) : ME := fun σ D => match mo σ D with
  | .ok x D1 => (match x with
    | .loc l => (match D1.get l with
      | some (.ins c' fs) => cond (Nat.beq c' c) (cond (noField hid fs) (match mr σ D1 with
        | .ok xs D2 => g (x :: xs) D2
        | .bad => .bad) .bad) .bad
      | _ => .bad)
    | _ => .bad)
  | .bad => .bad
where
  /-- no field has the method's name -/
  noField (hid : Nat → Bool) : List (Nat × DV) → Bool
    | [] => true
    | (f, _) :: r => cond (hid f) false (noField hid r)
def mProp (c : Nat) (g : MF) (mo : ME) : ME := fun σ D => match mo σ D with
  | .ok x D1 => (match x with
    | .loc l => (match D1.get l with
      | some (.ins c' _) => cond (Nat.beq c' c) (g [x] D1) .bad
      | _ => .bad)
    | _ => .bad)
  | .bad => .bad
def mMake (c : Nat) (g : MF) (mr : MA) : ME := fun σ D => match mr σ D with
  | .ok xs D1 => cond (Nat.blt D1.n bigN) (match g (.loc D1.n :: xs) (D1.add (.ins c [])) with
    | .ok .non D2 => .ok (.loc D1.n) D2
    | _ => .bad) .bad
  | .bad => .bad
section
variable {T : Tb} {k : Nat} {X : Cx} {x m : Str} {np : Nat} {g : MF} {e o : Expr} {es : List Expr} {mr : MA} {mo : ME} {p pos apos : Pos} {cn : Nat}
theorem sp_of {vs : List V} {H : Hp} {Q : VK} {E : XK} (q : rC T (fun xs D => cond (Nat.beq xs.length np) (g xs D) .bad) vs H Q) : spM T np g (vs ++ []) H Q E := by
  obtain ⟨ρ, D, as, h, r, p⟩ := q
  obtain ⟨c, p⟩ := cond_ok p
  rw [List.append_nil]
  exact ⟨by rw [r.len]; exact Nat.eq_of_beq_eq_true c, ρ, D, as, h, r, p⟩
def mCallN (np : Nat) (g : MF) (mr : MA) : ME := mCall (fun xs D => cond (Nat.beq xs.length np) (g xs D) .bad) mr
theorem ex_call (c : Cn T k X) (d : DefAt T k x np g) (ha : PA X (e :: es) (rA T mr)) (hg : Gl X x := by rfl) (h2 : (x == Str.ofString "__debug__") = false := by decide)
    (h3 : starEach (e :: es) X.env = (false, eval e X.env) :: starEach es X.env := by rfl) (h4 : ((backTo pos (starEach es X.env)).any fun x => x.1) = false := by rfl) : PE X (.Call (.Name x p) (e :: es) [] pos) (rE T (mCallN np g mr)) := by
  obtain ⟨f, fd, ps, h5, h6, h7, h8⟩ := d.ex
  refine PEw (pe_call (sp := spM T np g) (E := E0) (by rw [c.P, c.w, c.K, c.mg, c.base]; exact h8) c.room hg (by rw [c.mg]; exact h5) (by rw [c.K]; exact h6) (by rw [c.K]; exact h7) .nil pass0 ha h2 h3 h4) fun σ H Q q => tC_of (T := T) (f := fun xs D => cond (Nat.beq xs.length np) (g xs D) .bad) (r := fun vs H1 Q => spM T np g (vs ++ []) H1 Q E0) (fun xs H Q z => sp_of z) q
theorem ex_call0 (c : Cn T k X) (d : DefAt T k x 0 g) (hg : Gl X x := by rfl) (h2 : (x == Str.ofString "__debug__") = false := by decide) : PE X (.Call (.Name x p) [] [] pos) (rE T (mCallN 0 g aNil)) := by
  obtain ⟨f, fd, ps, h5, h6, h7, h8⟩ := d.ex
  refine PEw (pe_call0 (sp := spM T 0 g) (E := E0) (by rw [c.P, c.w, c.K, c.mg, c.base]; exact h8) c.room hg (by rw [c.mg]; exact h5) (by rw [c.K]; exact h6) (by rw [c.K]; exact h7) .nil pass0 h2) fun σ H Q ⟨ρ, σd, D, sr, hr, p⟩ => ?_
  exact sp_of (vs := []) (E := E0) ⟨ρ, D, [], hr, rfl, p⟩
theorem noField_ok {hid : Nat → Bool} {ρ : List Addr} {H : Hp} (hh : ∀ f, f < T.nf → hid f = false → ¬ T.fld f = m) : ∀ {fs : List (Nat × DV)} {gs : List (Str × V)}, FR T ρ H fs gs → mMeth.noField hid fs = true → gs.lookup m = none
  | [], _, h, _ => by cases h; rfl
  | (f, d) :: r, _, h, e => by
    obtain ⟨v, r', rfl, h1, h2, h3⟩ := h
    unfold mMeth.noField at e
    cases q : hid f with
    | true => rw [q] at e; cases e
    | false =>
      rw [q] at e
      have ne : (m == T.fld f) = false := beq_eq_false_iff_ne.mpr fun z => hh f h1 q z.symm
      rw [List.lookup_cons, ne]
      exact noField_ok hh h3 e
theorem meth_read {hid : Nat → Bool} (hh : ∀ f, f < T.nf → hid f = false → ¬ T.fld f = m) {t : TA} (ht : ∀ σ H (Q : List V → Hp → Prop), rA T mr σ H Q → t σ H Q) {σ : L2.St} {H : Hp} {Q : VK} {E : XK} (q : rE T (mMeth cn hid (fun xs D => cond (Nat.beq xs.length np) (g xs D) .bad) mo mr) σ H Q) : tMeth (T.cls cn) m (spM T np g) [] E (rE T mo) t σ H Q := by
  obtain ⟨ρ, σd, D, sr, hr, p⟩ := q
  refine ⟨ρ, σd, D, sr, hr, ?_⟩
  unfold mMeth at p
  cases e1 : mo σd D with
  | bad => rw [e1] at p; exact p.elim
  | ok x D1 =>
    rw [e1] at p
    intro ρ1 H1 v u1 h1 r1
    dsimp only at p
    split at p
    · split at p
      · rename_i l _ c' fs g1
        obtain ⟨c1, p1⟩ := cond_ok p
        obtain ⟨c2, p2⟩ := cond_ok p1
        have := Nat.eq_of_beq_eq_true c1
        subst this
        obtain ⟨a, rfl, hl, dx, gs, rf, hd⟩ := h1.at r1 g1
        refine ⟨a, dx, gs, rfl, hd, noField_ok hh rf c2, ht _ _ _ ⟨ρ1, σd, D1, sr.up u1, h1, ?_⟩⟩
        cases e2 : mr σd D1 with
        | bad => rw [e2] at p2; exact p2.elim
        | ok xs D2 =>
          rw [e2] at p2
          intro ρ2 H2 vs u2 h2 r2
          show spM T np g ((V.ref a :: vs) ++ []) H2 Q E
          exact sp_of ⟨ρ2, D2, _ :: xs, h2, ⟨_, _, rfl, r1.up u2, r2⟩, pE.up (u1.trans u2) p2⟩
      · exact p.elim
    · exact p.elim
def mMethN (c : Nat) (hid : Nat → Bool) (np : Nat) (g : MF) (mo : ME) (mr : MA) : ME := mMeth c hid (fun xs D => cond (Nat.beq xs.length np) (g xs D) .bad) mo mr
theorem ex_meth (c : Cn T k X) (d : MethAt T k cn m np g) (hid : Nat → Bool) (hh : ∀ f, f < T.nf → hid f = false → ¬ T.fld f = m) (ho : PE X o (rE T mo)) (ha : PA X (e :: es) (rA T mr))
    (h3 : starEach (e :: es) X.env = (false, eval e X.env) :: starEach es X.env := by rfl) (h4 : ((backTo pos (starEach es X.env)).any fun x => x.1) = false := by rfl) {pl : Sem Bool}
    (h5 : eval (.Call (.Attribute o m apos) (e :: es) [] pos) X.env = (do
      let ov ← eval o X.env
      standAt apos.atName
      let __x ← holding [ov] (getMethod ov m pl)
      match __x with
        | (f, first) => callWith pos f first (backTo pos (starEach (e :: es) X.env)) (backToKw pos (keywordEach [] X.env))) := by rfl) : PE X (.Call (.Attribute o m apos) (e :: es) [] pos) (rE T (mMethN cn hid np g mo mr)) := by
  obtain ⟨f, fd, ps, q1, q2, q3, q4⟩ := d.ex
  refine PEw (pe_meth (sp := spM T np g) (E := E0) ho (by rw [c.K]; exact q1) (by rw [c.K]; exact q2) (by rw [c.P, c.w, c.K, c.mg, c.base]; exact q4) c.room (by rw [c.K]; exact q3) .nil pass0 ha h3 h4 h5) fun σ H Q q => meth_read hh (fun _ _ _ z => z) q
theorem ex_meth0 (c : Cn T k X) (d : MethAt T k cn m np g) (hid : Nat → Bool) (hh : ∀ f, f < T.nf → hid f = false → ¬ T.fld f = m) (ho : PE X o (rE T mo)) {pl : Sem Bool}
    (h5 : eval (.Call (.Attribute o m apos) [] [] pos) X.env = (do
      let ov ← eval o X.env
      standAt apos.atName
      let __x ← holding [ov] (getMethod ov m pl)
      match __x with
        | (f, first) => callWith pos f first (backTo pos (starEach [] X.env)) (backToKw pos (keywordEach [] X.env))) := by rfl) : PE X (.Call (.Attribute o m apos) [] [] pos) (rE T (mMethN cn hid np g mo aNil)) := by
  obtain ⟨f, fd, ps, q1, q2, q3, q4⟩ := d.ex
  refine PEw (pe_meth0 (sp := spM T np g) (E := E0) ho (by rw [c.K]; exact q1) (by rw [c.K]; exact q2) (by rw [c.P, c.w, c.K, c.mg, c.base]; exact q4) c.room (by rw [c.K]; exact q3) .nil pass0 h5) fun σ H Q q => meth_read hh (fun σ H Q ⟨ρ, σd, D, sr, hr, p⟩ => p ρ H [] (Up.refl _ _) hr rfl) q
theorem make_read {t : TA} (ht : ∀ σ H (Q : List V → Hp → Prop), rA T mr σ H Q → t σ H Q) {σ : L2.St} {H : Hp} {Q : VK} {E : XK} (q : rE T (mMake cn (fun xs D => cond (Nat.beq xs.length np) (g xs D) .bad) mr) σ H Q) : tMake (T.cls cn) (spM T np g) [] E t σ H Q := by
  obtain ⟨ρ, σd, D, sr, hr, p⟩ := q
  refine ht _ _ _ ⟨ρ, σd, D, sr, hr, ?_⟩
  unfold mMake at p
  cases e1 : mr σd D with
  | bad => rw [e1] at p; exact p.elim
  | ok xs D1 =>
    rw [e1] at p
    intro ρ1 H1 vs u1 h1 r1 a dx ha hdx hne
    obtain ⟨c0, p⟩ := cond_ok p
    have u2 : Up ρ1 H1 ρ1 (upd H1 dx (.own a)) := up_new hdx
    have h2 := h1.new (o := .own a) hdx
    have ha2 : (upd H1 dx (.own a)) a = none := by rw [upd_ne hne.symm]; exact ha
    have u3 : Up ρ1 (upd H1 dx (.own a)) (ρ1 ++ [a]) (upd (upd H1 dx (.own a)) a (.ins (T.cls cn) dx [])) := up_add ha2
    have h3 : HR T (ρ1 ++ [a]) (D1.add (.ins cn [])) (upd (upd H1 dx (.own a)) a (.ins (T.cls cn) dx [])) := h2.add (blt_lt c0) ha2 ⟨dx, [], rfl, upd_same⟩
    have hl : (ρ1 ++ [a])[D1.n]? = some a := at_new h1.len
    show spM T np g ((V.ref a :: vs) ++ []) _ _ E
    refine sp_of ⟨ρ1 ++ [a], D1.add (.ins cn []), .loc D1.n :: xs, h3, ⟨_, _, rfl, ⟨a, hl, rfl⟩, r1.up (u2.trans u3)⟩, ?_⟩
    cases e2 : (fun xs D => cond (Nat.beq xs.length np) (g xs D) .bad) (DV.loc D1.n :: xs) (D1.add (.ins cn [])) with
    | bad => rw [e2] at p; exact p.elim
    | ok d D2 =>
      rw [e2] at p
      dsimp only at e2
      cases d with
      | non =>
        intro ρ4 H4 v u4 h4 r4
        cases r4
        exact ⟨rfl, p ρ4 H4 (.ref a) (u1.trans (u2.trans (u3.trans u4))) h4 ⟨a, u4.at hl, rfl⟩⟩
      | _ => exact p.elim
def mMakeN (c np : Nat) (g : MF) (mr : MA) : ME := mMake c (fun xs D => cond (Nat.beq xs.length np) (g xs D) .bad) mr
theorem ex_make {j : Nat} (c : Cn T k X) (hj : j + 1 ≤ k) (d : MakeAt T j x cn np g) (ha : PA X (e :: es) (rA T mr)) (hg : Gl X x := by rfl) (h2 : (x == Str.ofString "__debug__") = false := by decide)
    (h3 : starEach (e :: es) X.env = (false, eval e X.env) :: starEach es X.env := by rfl) (h4 : ((backTo pos (starEach es X.env)).any fun x => x.1) = false := by rfl) : PE X (.Call (.Name x p) (e :: es) [] pos) (rE T (mMakeN cn np g mr)) := by
  obtain ⟨f, fd, ps, q1, q2, q3, q4⟩ := d.ex
  refine PEw (pe_make (sp := spM T np g) (E := E0) (by rw [c.K]; exact q2) (by rw [c.P, c.w, c.K, c.mg, c.base]; exact q4) (c.room.mono hj) hg (by rw [c.mg]; exact q1) (by rw [c.K]; exact q3) .nil pass0 ha h2 h3 h4) fun σ H Q q => make_read (fun _ _ _ z => z) q
theorem ex_prop {j : Nat} (c : Cn T k X) (hj : j + 1 ≤ k) (d : PropAt T j cn m g) (ho : PE X o (rE T mo)) (hb : attributeBase o m X.env (eval o X.env) = eval o X.env := by rfl) : PE X (.Attribute o m pos) (rE T (mProp cn g mo)) := by
  obtain ⟨pr, f, fd, ps, q1, q2, q3, q4⟩ := d.ex
  refine PEw (pe_prop (sp := spM T 1 g) (E := E0) ho (by rw [c.K]; exact q1) (by rw [c.K]; exact q2) (by rw [c.P, c.w, c.K, c.mg, c.base]; exact q4) (c.room.mono hj) (by rw [c.K]; exact q3) .nil pass0 hb) fun σ H Q ⟨ρ, σd, D, sr, hr, p⟩ => ⟨ρ, σd, D, sr, hr, ?_⟩
  unfold mProp at p
  cases e1 : mo σd D with
  | bad => rw [e1] at p; exact p.elim
  | ok x D1 =>
    rw [e1] at p
    intro ρ1 H1 v u1 h1 r1
    dsimp only at p
    split at p
    · split at p
      · rename_i l _ c' fs g1
        obtain ⟨c1, p1⟩ := cond_ok p
        have := Nat.eq_of_beq_eq_true c1
        subst this
        obtain ⟨a, rfl, hl, dx, gs, rf, hd⟩ := h1.at r1 g1
        exact ⟨a, dx, gs, rfl, hd, rfl, ρ1, D1, [_], h1, ⟨_, [], rfl, r1, rfl⟩, pE.up u1 p1⟩
      · exact p.elim
    · exact p.elim
end
end FH

namespace FH
open PySem PySem.Spec PyProof.Rows L2

/-! ### dicts whose keys are written tuples -/
def dLookU (x : DV) (ys : List DV) (D : DH) : Option (Option DV) := match x with
  | .loc l => (match D.get l with
    | some (.dT _ kvs) => cond (fkeys ys) (some (valTD kvs ys)) none
    | _ => none)
  | _ => none
theorem dLookU_ok {T : Tb} {ρ : List Addr} {H : Hp} {D : DH} (h : HR T ρ D H) {x : DV} {ys : List DV} {v : V} {vs : List V} {b : Addr} {o : Option DV} (r1 : VR T ρ H x v) (r2 : VRs T ρ H ys vs) (hb : H b = some (.tup vs)) (e : dLookU x ys D = some o) :
    ∃ a o', v = .ref a ∧ DGet H a (.ref b) o' ∧ (∀ d, o = some d → ∃ u, o' = some u ∧ VR T ρ H d u) ∧ (o = none → o' = none) := by
  unfold dLookU at e
  split at e
  · split at e
    · rename_i l _ fz kvs g
      obtain ⟨c, e1⟩ := cond_some e
      obtain ⟨a, rfl, _, j⟩ := h.at r1 g
      obtain ⟨ks, rk, hd⟩ := j.rdT
      obtain ⟨k, rfl, hk⟩ := KTR.of c r2
      obtain ⟨g1, g2⟩ := rk.get hk
      obtain rfl := Option.some.inj e1
      exact ⟨a, _, rfl, .inr ⟨ks, k, b, hd, rfl, hb, rfl⟩, g1, g2⟩
    · cases e
  · cases e
def dPutU (x : DV) (ys : List DV) (v : DV) (D : DH) : Option DH := match x with
  | .loc l => (match D.get l with
    | some (.dT false kvs) => cond (fkeys ys) (cond (lineLt kvs.length) (some (D.put l (.dT false (putTD kvs ys v)))) none) none
    | _ => none)
  | _ => none
theorem dPutU_ok {T : Tb} {ρ : List Addr} {H : Hp} {D D' : DH} (h : HR T ρ D H) {x d : DV} {ys : List DV} {v u : V} {vs : List V} {b : Addr} (r1 : VR T ρ H x v) (r2 : VRs T ρ H ys vs) (hb : H b = some (.tup vs)) (r3 : VR T ρ H d u) (e : dPutU x ys d D = some D') :
    ∃ a H', v = .ref a ∧ DPut H a (.ref b) u H' ∧ Up ρ H ρ H' ∧ HR T ρ D' H' := by
  unfold dPutU at e
  split at e
  · split at e
    · rename_i l _ kvs g
      obtain ⟨c, e1⟩ := cond_some e
      obtain ⟨c2, e2⟩ := cond_some e1
      obtain rfl := Option.some.inj e2
      obtain ⟨a, rfl, hl, ks, rk, hd⟩ := h.at r1 g
      obtain ⟨k, rfl, hk⟩ := KTR.of c r2
      have u1 : Up ρ H ρ (upd H a (.dT (putK ks k u))) := up_put hd trivial (fun _ z => by cases z)
      exact ⟨a, _, rfl, .inr ⟨ks, k, b, hd, rfl, hb, by rw [rk.len]; exact lineLt_ok c2, rfl⟩, u1, h.put hl hd trivial (fun _ z => by cases z) ⟨_, KTV.put hk (r3.up u1) (rk.up u1), upd_same⟩⟩
    · cases e
  · cases e
def mGetT (mo : ME) (mr : MA) : ME := fun σ D => match mo σ D with
  | .ok x D1 => (match mr σ D1 with
    | .ok ys D2 => cond (Nat.ble ys.length lineN) (match dLookU x ys D2 with
      | some (some d) => .ok d D2
      | _ => .bad) .bad
    | .bad => .bad)
  | .bad => .bad
def mHasT (neg : Bool) (mr : MA) (mo : ME) : ME := fun σ D => match mr σ D with
  | .ok ys D1 => cond (Nat.ble ys.length lineN) (match mo σ D1 with
    | .ok x D2 => (match dLookU x ys D2 with
      | some o => .ok (.bl (cond neg (!o.isSome) o.isSome)) D2
      | none => .bad)
    | .bad => .bad) .bad
  | .bad => .bad
def sDputT (mv mo : ME) (mr : MA) : MS := fun σ D => match mv σ D with
  | .ok v D1 => (match mo σ D1 with
    | .ok x D2 => (match mr σ D2 with
      | .ok ys D3 => cond (Nat.ble ys.length lineN) (match dPutU x ys v D3 with
        | some D4 => .nx σ D4
        | none => .bad) .bad
      | .bad => .bad)
    | .bad => .bad)
  | .bad => .bad
section
variable {T : Tb} {k : Nat} {X : Cx} {o value : Expr} {es : List Expr} {kk : Nat} {mo mv : ME} {mr : MA} {pos pos' tpos : Pos}
theorem ex_getT (c : Cn T k X) (ho : PE X o (rE T mo)) (hr : PA X es (rA T mr)) (hs : NoSl (.Tuple es kk tpos) := by exact fun _ _ => rfl) : PE X (.Subscript o (.Tuple es kk tpos) pos) (rE T (mGetT mo mr)) := by
  refine PEw (pe_dget c.hu ho (pe_tup hr) hs) fun σ H Q ⟨ρ, σd, D, sr, h, p⟩ => ⟨ρ, σd, D, sr, h, ?_⟩
  unfold mGetT at p
  cases e1 : mo σd D with
  | bad => rw [e1] at p; exact p.elim
  | ok x D1 =>
    rw [e1] at p
    intro ρ1 H1 v u1 h1 r1
    refine ⟨ρ1, σd, D1, sr.up u1, h1, ?_⟩
    dsimp only at p
    cases e2 : mr σd D1 with
    | bad => rw [e2] at p; exact p.elim
    | ok ys D2 =>
      rw [e2] at p
      intro ρ2 H2 vs u2 h2 r2
      obtain ⟨cl, p1⟩ := cond_ok p
      refine ⟨by rw [r2.len]; exact ble_line cl, fun q hq => ?_⟩
      have u3 : Up ρ2 H2 ρ2 (upd H2 q (.tup vs)) := up_new hq
      have h3 := h2.new (o := .tup vs) hq
      split at p1
      · rename_i d g
        obtain ⟨a, o', rfl, h4, h5, _⟩ := dLookU_ok h3 ((r1.up u2).up u3) (r2.up u3) upd_same g
        obtain ⟨w, rfl, rw'⟩ := h5 d rfl
        exact ⟨a, w, rfl, h4, p1 ρ2 _ w (u1.trans (u2.trans u3)) h3 rw'⟩
      · exact p1.elim
theorem hasT_read {neg : Bool} {σ : L2.St} {H : Hp} {Q : VK} (q : rE T (mHasT neg mr mo) σ H Q) :
    tTup (rA T mr) σ H fun y H1 => rE T mo σ H1 fun x H2 => ∃ a o, x = .ref a ∧ DGet H2 a y o ∧ Q (.bl (cond neg (!o.isSome) o.isSome)) H2 := by
  obtain ⟨ρ, σd, D, sr, h, p⟩ := q
  refine ⟨ρ, σd, D, sr, h, ?_⟩
  unfold mHasT at p
  cases e1 : mr σd D with
  | bad => rw [e1] at p; exact p.elim
  | ok ys D1 =>
    rw [e1] at p
    intro ρ1 H1 vs u1 h1 r1
    obtain ⟨cl, p1⟩ := cond_ok p
    refine ⟨by rw [r1.len]; exact ble_line cl, fun q hq => ?_⟩
    have u2 : Up ρ1 H1 ρ1 (upd H1 q (.tup vs)) := up_new hq
    have h2 := h1.new (o := .tup vs) hq
    refine ⟨ρ1, σd, D1, sr.up (u1.trans u2), h2, ?_⟩
    cases e2 : mo σd D1 with
    | bad => rw [e2] at p1; exact p1.elim
    | ok x D2 =>
      rw [e2] at p1
      intro ρ3 H3 v u3 h3 r3
      dsimp only at p1
      split at p1
      · rename_i o g
        obtain ⟨a, o', rfl, h4, h5, h6⟩ := dLookU_ok h3 r3 ((r1.up u2).up u3) (u3.tup q vs upd_same) g
        refine ⟨a, o', rfl, h4, ?_⟩
        have e : o.isSome = o'.isSome := by
          cases o with
          | none => rw [h6 rfl]; rfl
          | some d => obtain ⟨u, rfl, _⟩ := h5 d rfl; rfl
        rw [e] at p1
        exact p1 ρ3 H3 (.bl _) (u1.trans (u2.trans u3)) h3 rfl
      · exact p1.elim
theorem tx_inT (c : Cn T k X) (hr : PA X es (rA T mr)) (ho : PE X o (rE T mo)) (hm : behindInMarks .In o = false := by rfl) : PT X (.Compare (.Tuple es kk tpos) [.In] [o] pos) (rT T (tV (mHasT false mr mo))) :=
  PTw (pt_cmp (pc_din c.hu (pe_tup hr) ho) hm) fun σ H Q q => tV_of (fun σ H Q q => hasT_read q) q
theorem tx_notinT (c : Cn T k X) (hr : PA X es (rA T mr)) (ho : PE X o (rE T mo)) (hm : behindInMarks .NotIn o = false := by rfl) : PT X (.Compare (.Tuple es kk tpos) [.NotIn] [o] pos) (rT T (tV (mHasT true mr mo))) :=
  PTw (pt_cmp (pc_dnotin c.hu (pe_tup hr) ho) hm) fun σ H Q q => tV_of (fun σ H Q q => hasT_read q) q
theorem sx_dputT (c : Cn T k X) (ho : PE X o (rE T mo)) (hr : PA X es (rA T mr)) (hv : PE X value (rE T mv)) (hs : swapsWith value (some (.Subscript o (.Tuple es kk tpos) pos')) pos.line X.env = pure false := by rfl) : PS X (.Assign [.Subscript o (.Tuple es kk tpos) pos'] value pos) (rS T (sDputT mv mo mr)) := by
  refine PSw (ps_dput c.hu ho (pe_tup hr) hv hs) fun E σ H ⟨ρ, σd, D, sr, hr, p⟩ => ⟨ρ, σd, D, sr, hr, ?_⟩
  unfold sDputT at p
  cases e1 : mv σd D with
  | bad => rw [e1] at p; exact p.elim
  | ok v D1 =>
    rw [e1] at p
    intro ρ1 H1 v' u1 h1 r1
    refine ⟨ρ1, σd, D1, sr.up u1, h1, ?_⟩
    dsimp only at p
    cases e2 : mo σd D1 with
    | bad => rw [e2] at p; exact p.elim
    | ok x D2 =>
      rw [e2] at p
      intro ρ2 H2 x' u2 h2 r2
      refine ⟨ρ2, σd, D2, sr.up (u1.trans u2), h2, ?_⟩
      dsimp only at p
      cases e3 : mr σd D2 with
      | bad => rw [e3] at p; exact p.elim
      | ok ys D3 =>
        rw [e3] at p
        intro ρ3 H3 vs u3 h3 r3
        dsimp only at p
        obtain ⟨cl, p1⟩ := cond_okS p
        refine ⟨by rw [r3.len]; exact ble_line cl, fun q hq => ?_⟩
        have u4 : Up ρ3 H3 ρ3 (upd H3 q (.tup vs)) := up_new hq
        have h4 := h3.new (o := .tup vs) hq
        split at p1
        · rename_i D4 g
          obtain ⟨a, H5, rfl, hp, u5, h5⟩ := dPutU_ok h4 ((r2.up u3).up u4) (r3.up u4) upd_same ((r1.up (u2.trans u3)).up u4) g
          have u : Up ρ H ρ3 H5 := u1.trans (u2.trans (u3.trans (u4.trans u5)))
          exact ⟨a, H5, rfl, hp, p1 ρ3 H5 σ u h5 (sr.up u)⟩
        · exact p1.elim
end

/-! ### texts walked, letter by letter -/
def Src.text (cs : List Nat) : Src := ⟨fun _ i => some (letter (latN cs i)), fun _ => cs.length⟩
where
  latN : List Nat → Nat → Option Nat
    | [], _ => none
    | c :: _, 0 => some c
    | _ :: r, i + 1 => latN r i
  letter (o : Option Nat) : Option DV := match o with
    | some c => some (.str [c])
    | none => none
theorem latN_eq : ∀ (xs : List Nat) (i : Nat), Src.text.latN xs i = xs[i]?
  | [], _ => by simp [Src.text.latN]
  | _ :: _, 0 => by simp [Src.text.latN]
  | _ :: r, i + 1 => by simp [Src.text.latN, latN_eq r i]
end FH
namespace FH
open PySem PySem.Spec PyProof.Rows L2
def iStrM (m : ME) : MI := fun σ D => match m σ D with
  | .ok (.str cs) D1 => .ok (.text cs) D1
  | _ => .bad
section
variable {T : Tb} {k : Nat} {X : Cx} {tg e : Expr} {m : ME}
theorem itd_text {ρ : List Addr} {H : Hp} {cs : List Nat} : ItD T ρ H (.text cs) (Its ⟨cs.toArray⟩) := by
  intro ρ1 D1 H1 u h i
  show match some (Src.text.letter (Src.text.latN cs i)) with
    | none => True
    | some none => (Its ⟨cs.toArray⟩).stop i H1
    | some (some d) => (Its ⟨cs.toArray⟩).go i H1 ∧ ∀ x H', (Its ⟨cs.toArray⟩).yld i H1 x H' → Up ρ1 H1 ρ1 H' ∧ HR T ρ1 D1 H' ∧ VR T ρ1 H' d x
  rw [latN_eq]
  cases e : cs[i]? with
  | none => show cs.toArray.size ≤ i; simpa using List.getElem?_eq_none_iff.mp e
  | some c =>
    have hi := (List.getElem?_eq_some_iff.mp e).1
    refine ⟨by show i < cs.toArray.size; simpa using hi, fun x H' y => ?_⟩
    obtain ⟨rfl, c', e', rfl⟩ := y
    have e' : cs.toArray[i]? = some c' := e'
    rw [List.getElem?_toArray, e] at e'
    cases e'
    exact ⟨Up.refl _ _, h, rfl⟩
theorem ix_strM (h : PE X e (rE T m)) : PI X tg e (rI T (iStrM m)) := by
  refine PIw (pi_str h) fun σ H Q ⟨ρ, σd, D, sr, hr, p⟩ => ⟨ρ, σd, D, sr, hr, ?_⟩
  unfold iStrM at p
  cases e1 : m σd D with
  | bad => rw [e1] at p; exact p.elim
  | ok d D1 =>
    rw [e1] at p
    cases d with
    | str cs =>
      intro ρ1 H1 v u1 h1 r1
      cases r1
      exact ⟨_, rfl, p ρ1 H1 _ u1 h1 itd_text⟩
    | _ => exact p.elim
end
end FH

namespace FH
open PySem PySem.Spec PyProof.Rows L2

/-! ### either of two machines: the second where the first has no step -/
def mAlt (a b : ME) : ME := fun σ D => match a σ D with
  | .ok d D1 => .ok d D1
  | .bad => b σ D
def tAlt (a b : MT) : MT := fun σ D => match a σ D with
  | .ok d D1 => .ok d D1
  | .bad => b σ D
def iAlt (a b : MI) : MI := fun σ D => match a σ D with
  | .ok d D1 => .ok d D1
  | .bad => b σ D
def sAlt (a b : MS) : MS := fun σ D => match a σ D with
  | .bad => b σ D
  | r => r
section
variable {T : Tb} {X : Cx} {e tg it : Expr} {st : Stmt} {m1 m2 : ME} {t1 t2 : MT} {i1 i2 : MI} {s1 s2 : MS}
theorem ex_alt (h1 : PE X e (rE T m1)) (h2 : PE X e (rE T m2)) : PE X e (rE T (mAlt m1 m2)) := by
  refine ⟨fun pins s σ H Q I ⟨ρ, σd, D, sr, hr, p⟩ => ?_⟩
  unfold mAlt at p
  cases g : m1 σd D with
  | ok d D1 => rw [g] at p; exact h1.run pins s σ H Q I ⟨ρ, σd, D, sr, hr, by rw [g]; exact p⟩
  | bad => rw [g] at p; exact h2.run pins s σ H Q I ⟨ρ, σd, D, sr, hr, p⟩
theorem tx_alt (h1 : PT X e (rT T t1)) (h2 : PT X e (rT T t2)) : PT X e (rT T (tAlt t1 t2)) := by
  refine ⟨fun pins s σ H Q I ⟨ρ, σd, D, sr, hr, p⟩ => ?_⟩
  unfold tAlt at p
  cases g : t1 σd D with
  | ok d D1 => rw [g] at p; exact h1.run pins s σ H Q I ⟨ρ, σd, D, sr, hr, by rw [g]; exact p⟩
  | bad => rw [g] at p; exact h2.run pins s σ H Q I ⟨ρ, σd, D, sr, hr, p⟩
theorem ix_alt (h1 : PI X tg it (rI T i1)) (h2 : PI X tg it (rI T i2)) : PI X tg it (rI T (iAlt i1 i2)) := by
  refine ⟨fun pins s σ H Q I ⟨ρ, σd, D, sr, hr, p⟩ => ?_⟩
  unfold iAlt at p
  cases g : i1 σd D with
  | ok d D1 => rw [g] at p; exact h1.run pins s σ H Q I ⟨ρ, σd, D, sr, hr, by rw [g]; exact p⟩
  | bad => rw [g] at p; exact h2.run pins s σ H Q I ⟨ρ, σd, D, sr, hr, p⟩
theorem sx_alt (h1 : PS X st (rS T s1)) (h2 : PS X st (rS T s2)) : PS X st (rS T (sAlt s1 s2)) := by
  refine ⟨fun pins s σ H Q I ⟨ρ, σd, D, sr, hr, p⟩ => ?_⟩
  unfold sAlt at p
  cases g : s1 σd D with
  | bad => rw [g] at p; exact h2.run pins s σ H Q I ⟨ρ, σd, D, sr, hr, p⟩
  | nx d D1 => rw [g] at p; exact h1.run pins s σ H Q I ⟨ρ, σd, D, sr, hr, by rw [g]; exact p⟩
  | rt d D1 => rw [g] at p; exact h1.run pins s σ H Q I ⟨ρ, σd, D, sr, hr, by rw [g]; exact p⟩
  | bk d D1 => rw [g] at p; exact h1.run pins s σ H Q I ⟨ρ, σd, D, sr, hr, by rw [g]; exact p⟩
  | ct d D1 => rw [g] at p; exact h1.run pins s σ H Q I ⟨ρ, σd, D, sr, hr, by rw [g]; exact p⟩
/-- an expression that has no step here (a way that is never gone) -/
def mNever : ME := fun _ _ => .bad
theorem ex_never : PE X e (rE T mNever) := ⟨fun pins s σ H Q I ⟨ρ, σd, D, sr, hr, p⟩ => p.elim⟩
def tNever' : MT := fun _ _ => .bad
theorem tx_never : PT X e (rT T tNever') := ⟨fun pins s σ H Q I ⟨ρ, σd, D, sr, hr, p⟩ => p.elim⟩
end
/-- a built-in type's or a class's name as a value -/
theorem ex_ty {T : Tb} {X : Cx} (n : Nat) {x : Str} {pos : Pos} (hn : n < 7 := by decide) (hg : Gl X x := by rfl) (hm : X.mg x = none := by rfl) (hv : bootBuiltins x = some (.type (tyN n)) := by rfl) (h1 : x ≠ Str.ofString "__name__" := by decide) (h2 : (x == Str.ofString "__debug__") = false := by decide) : PE X (.Name x pos) (rE T (mC (.cn n))) :=
  ex_const (pe_bltn (v := .ty (tyN n)) hg hm hv rfl h1 h2) fun ρ H => by
    show T.con n = some (.ty (tyN n))
    unfold Tb.con
    rw [show Nat.blt n 16 = true from Nat.ble_eq_true_of_le (show n + 1 ≤ 16 by omega)]; rfl
theorem ex_cls {T : Tb} {k : Nat} {X : Cx} (c : Cn T k X) (n : Nat) {x : Str} {pos : Pos} (hm : T.mg x = some (.ref (T.cls n))) (hn : n < 1000 := by decide) (hg : Gl X x := by rfl) (h2 : (x == Str.ofString "__debug__") = false := by decide) : PE X (.Name x pos) (rE T (mC (.cn (Nat.add 16 n)))) :=
  ex_const (pe_glob (v := .ref (T.cls n)) hg (by rw [c.mg]; exact hm) rfl h2) fun ρ H => by
    show T.con (Nat.add 16 n) = some (.ref (T.cls n))
    unfold Tb.con
    have e : Nat.add 16 n = 16 + n := rfl
    rw [show Nat.blt (Nat.add 16 n) 16 = false from by
      cases z : Nat.blt (Nat.add 16 n) 16 with
      | false => rfl
      | true => exact absurd (blt_lt z) (by omega), cond_false, show Nat.blt (Nat.add 16 n) 1016 = true from Nat.ble_eq_true_of_le (show Nat.add 16 n + 1 ≤ 1016 by omega), cond_true]
    have : Nat.sub (Nat.add 16 n) 16 = n := Nat.add_sub_cancel_left 16 n
    rw [this]

/-- a module's constant that is plain data -/
structure GC (T : Tb) (x : Str) (d : DV) : Prop where
  ex : ∃ a, T.mg x = some (.ref a) ∧ ∀ ρ H, VR T ρ H d (.ref a)
theorem ex_gcon {T : Tb} {k : Nat} {X : Cx} {d : DV} (c : Cn T k X) {x : Str} {pos : Pos} (g : GC T x d) (hg : Gl X x := by rfl) (h2 : (x == Str.ofString "__debug__") = false := by decide) : PE X (.Name x pos) (rE T (mC d)) := by
  obtain ⟨a, hm, r⟩ := g.ex
  exact ex_const (pe_glob (v := .ref a) hg (by rw [c.mg]; exact hm) rfl h2) r

/-! ### what the top has written, def by def -/
/-- a def of the module -/
structure DF (T : Tb) (x qual : Str) (st : Stmt) (ps : List Str) : Prop where
  ex : ∃ f fd, Fun T.K x qual st f fd ∧ T.mg x = some (.ref f) ∧ L2.Binds T.K fd ps []
/-- a method of class number c -/
structure MtF (T : Tb) (c : Nat) (x qual : Str) (st : Stmt) (ps : List Str) : Prop where
  ex : ∃ f fd, Fun T.K x qual st f fd ∧ Cls T.K (T.cls c) ∧ Meth T.K (T.cls c) x f ∧ L2.Binds T.K fd ps []
structure PrF (T : Tb) (c : Nat) (x qual : Str) (st : Stmt) (ps : List Str) : Prop where
  ex : ∃ pr f fd, Fun T.K x qual st f fd ∧ Cls T.K (T.cls c) ∧ PropOf T.K (T.cls c) x pr f ∧ L2.Binds T.K fd ps []
structure InF (T : Tb) (c : Nat) (cx x qual : Str) (st : Stmt) (ps : List Str) : Prop where
  ex : ∃ f fd, Fun T.K x qual st f fd ∧ T.mg cx = some (.ref (T.cls c)) ∧ Mk T.K (T.cls c) f ∧ L2.Binds T.K fd ps []
section
variable {T : Tb} {k c : Nat} {x qual cx : Str} {st : Stmt} {N ps : List Str} {b : MS}
theorem DF.at (d : DF T x qual st ps) (np nr : Nat) (sc : FnScope N ps (defScope st)) (hp : ps.length = np) (hr : N.length = np + nr)
    (h : ∀ (f : Addr) (cdv : Value) (A : Around) (outer : List Env) (s : Shared) (H : Hp) (E : XK), Cn T k (cxM T N qual st f cdv A outer s H E) → PSs (cxM T N qual st f cdv A outer s H E) (defBody st) (rS T b)) : DefAt T (k + 1) x np (mDef np nr b) := by
  obtain ⟨f, fd, F, m, bi⟩ := d.ex
  exact ⟨f, fd, ps, m, F.kp, bi, def_ok np nr F sc hp hr (h f)⟩
theorem MtF.at (d : MtF T c x qual st ps) (np nr : Nat) (sc : FnScope N ps (defScope st)) (hp : ps.length = np) (hr : N.length = np + nr)
    (h : ∀ (f : Addr) (cdv : Value) (A : Around) (outer : List Env) (s : Shared) (H : Hp) (E : XK), Cn T k (cxM T N qual st f cdv A outer s H E) → PSs (cxM T N qual st f cdv A outer s H E) (defBody st) (rS T b)) : MethAt T (k + 1) c x np (mDef np nr b) := by
  obtain ⟨f, fd, F, cl, m, bi⟩ := d.ex
  exact ⟨f, fd, ps, cl, m, bi, def_ok np nr F sc hp hr (h f)⟩
theorem PrF.at (d : PrF T c x qual st ps) (nr : Nat) (sc : FnScope N ps (defScope st)) (hp : ps.length = 1) (hr : N.length = 1 + nr)
    (h : ∀ (f : Addr) (cdv : Value) (A : Around) (outer : List Env) (s : Shared) (H : Hp) (E : XK), Cn T k (cxM T N qual st f cdv A outer s H E) → PSs (cxM T N qual st f cdv A outer s H E) (defBody st) (rS T b)) : PropAt T (k + 1) c x (mDef 1 nr b) := by
  obtain ⟨pr, f, fd, F, cl, m, bi⟩ := d.ex
  exact ⟨pr, f, fd, ps, cl, m, bi, def_ok 1 nr F sc hp hr (h f)⟩
theorem InF.at (d : InF T c cx x qual st ps) (np nr : Nat) (sc : FnScope N ps (defScope st)) (hp : ps.length = np) (hr : N.length = np + nr)
    (h : ∀ (f : Addr) (cdv : Value) (A : Around) (outer : List Env) (s : Shared) (H : Hp) (E : XK), Cn T k (cxM T N qual st f cdv A outer s H E) → PSs (cxM T N qual st f cdv A outer s H E) (defBody st) (rS T b)) : MakeAt T (k + 1) cx c np (mDef np nr b) := by
  obtain ⟨f, fd, F, m, mk, bi⟩ := d.ex
  exact ⟨f, fd, ps, m, mk, bi, def_ok np nr F sc hp hr (h f)⟩
abbrev badF : MF := fun _ _ => .bad
theorem DF.zero (d : DF T x qual st ps) (np : Nat) : DefAt T 0 x np badF := by
  obtain ⟨f, fd, F, m, bi⟩ := d.ex
  exact ⟨f, fd, ps, m, F.kp, bi, fn_bad⟩
theorem MtF.zero (d : MtF T c x qual st ps) (np : Nat) : MethAt T 0 c x np badF := by
  obtain ⟨f, fd, F, cl, m, bi⟩ := d.ex
  exact ⟨f, fd, ps, cl, m, bi, fn_bad⟩
theorem PrF.zero (d : PrF T c x qual st ps) : PropAt T 0 c x badF := by
  obtain ⟨pr, f, fd, F, cl, m, bi⟩ := d.ex
  exact ⟨pr, f, fd, ps, cl, m, bi, fn_bad⟩
theorem InF.zero (d : InF T c cx x qual st ps) (np : Nat) : MakeAt T 0 cx c np badF := by
  obtain ⟨f, fd, F, m, mk, bi⟩ := d.ex
  exact ⟨f, fd, ps, m, mk, bi, fn_bad⟩
end
end FH

namespace FH
open PySem PySem.Spec PyProof.Rows L2

/-! ### x, y = a, b -/
def sPar (is : List Nat) (mr : MA) : MS := fun σ D => match mr σ D with
  | .ok ds D1 => cond (Nat.beq ds.length is.length) (.nx (setAll σ is ds) D1) .bad
  | .bad => .bad
where
  setAll (σ : DL) : List Nat → List DV → DL
    | i :: is, d :: ds => setAll (σ.set i (some d)) is ds
    | _, _ => σ
section
variable {T : Tb} {k : Nat} {X : Cx} {a b e : Expr} {mr : MA} {px py pz pt pos pt2 : Pos} {kt k2 : Nat} {x y z : Str}
theorem sx_par (c : Cn T k X) (i j : Nat) (h : PA X [a, b] (rA T mr)) (hi : X.N[i]? = some x := by rfl) (hj : X.N[j]? = some y := by rfl) (hij : i ≠ j := by decide)
    (hx : X.env.scope.names.lookup x = some .local := by rfl) (hy : X.env.scope.names.lookup y = some .local := by rfl)
    (hw : swappedStores [.Tuple [.Name x px, .Name y py] kt pt] (.Tuple [a, b] k2 pt2) X.env = pure (some [x, y]) := by rfl)
    (hs : swapsWithSole [.Tuple [.Name x px, .Name y py] kt pt] (.Tuple [a, b] k2 pt2) pos.line X.env = pure false := by rfl) :
    PS X (.Assign [.Tuple [.Name x px, .Name y py] kt pt] (.Tuple [a, b] k2 pt2) pos) (rS T (sPar [i, j] mr)) := by
  refine PSw (ps_par c.calm c.nd hi hj hij hx hy h hw hs) fun E σ H ⟨ρ, σd, D, sr, hr, p⟩ => ⟨ρ, σd, D, sr, hr, ?_⟩
  unfold sPar at p
  cases e1 : mr σd D with
  | bad => rw [e1] at p; exact p.elim
  | ok ds D1 =>
    rw [e1] at p
    intro ρ1 H1 vs u1 h1 r1
    obtain ⟨cl, p1⟩ := cond_okS p
    have hl := Nat.eq_of_beq_eq_true cl
    match ds, hl with
    | [d1, d2], _ =>
      obtain ⟨v, w, rfl, q1, q2⟩ := r1.two
      exact ⟨v, w, rfl, p1 ρ1 H1 _ u1 h1 (((sr.up u1).set (d := some d1) (o := some v) (OR.mk q1) i).set (d := some d2) (o := some w) (OR.mk q2) j)⟩
theorem sx_par3 (c : Cn T k X) (i j l : Nat) (h : PA X [a, b, e] (rA T mr)) (hi : X.N[i]? = some x := by rfl) (hj : X.N[j]? = some y := by rfl) (hl : X.N[l]? = some z := by rfl) (hij : i ≠ j := by decide) (hil : i ≠ l := by decide) (hjl : j ≠ l := by decide)
    (hx : X.env.scope.names.lookup x = some .local := by rfl) (hy : X.env.scope.names.lookup y = some .local := by rfl) (hz : X.env.scope.names.lookup z = some .local := by rfl)
    (hw : swappedStores [.Tuple [.Name x px, .Name y py, .Name z pz] kt pt] (.Tuple [a, b, e] k2 pt2) X.env = pure (some [x, y, z]) := by rfl)
    (hs : swapsWithSole [.Tuple [.Name x px, .Name y py, .Name z pz] kt pt] (.Tuple [a, b, e] k2 pt2) pos.line X.env = pure false := by rfl) :
    PS X (.Assign [.Tuple [.Name x px, .Name y py, .Name z pz] kt pt] (.Tuple [a, b, e] k2 pt2) pos) (rS T (sPar [i, j, l] mr)) := by
  refine PSw (ps_par3 c.calm c.nd hi hj hl hij hil hjl hx hy hz h hw hs) fun E σ H ⟨ρ, σd, D, sr, hr, p⟩ => ⟨ρ, σd, D, sr, hr, ?_⟩
  unfold sPar at p
  cases e1 : mr σd D with
  | bad => rw [e1] at p; exact p.elim
  | ok ds D1 =>
    rw [e1] at p
    intro ρ1 H1 vs u1 h1 r1
    obtain ⟨cl, p1⟩ := cond_okS p
    have hl := Nat.eq_of_beq_eq_true cl
    match ds, hl with
    | [d1, d2, d3], _ =>
      obtain ⟨v, r, rfl, q1, r2⟩ := r1
      obtain ⟨w, u, rfl, q2, q3⟩ := r2.two
      exact ⟨v, w, u, rfl, p1 ρ1 H1 _ u1 h1 ((((sr.up u1).set (d := some d1) (o := some v) (OR.mk q1) i).set (d := some d2) (o := some w) (OR.mk q2) j).set (d := some d3) (o := some u) (OR.mk q3) l)⟩
end

/-! ### a class made with keywords: C(a, .., x=b, ..), def __init__(self, .., *, x=d, ..) -/
/-- what stands at each parameter's place: the i-th argument (self is 0), the j-th keyword, a default -/
inductive Wh where
  | pos (i : Nat)
  | kw (j : Nat)
  | dfl (d : DV)
def whD (ds es : List DV) : List Wh → Option (List DV)
  | [] => some []
  | w :: r => (match (match w with
      | .pos i => lat ds i
      | .kw j => lat es j
      | .dfl d => some d), whD ds es r with
    | some x, some xs => some (x :: xs)
    | _, _ => none)
/-- the class x, number c, by its __init__ with n arguments (self among them) and the keywords ks -/
structure MakeKAt (T : Tb) (k : Nat) (x : Str) (c : Nat) (n : Nat) (ks : List Str) (np : Nat) (ws : List Wh) (g : MF) : Prop where
  ex : ∃ f fd ps gu gV, T.mg x = some (.ref (T.cls c)) ∧ Mk T.K (T.cls c) f ∧ KBn T.K fd ps n ks gu gV ∧ FnOk T.P T.w T.K T.mg T.base CX0 k f fd ps (spM T np g) ∧
    ∀ ρ H ds es vs zs xs, ds.length = n → es.length = ks.length → VRs T ρ H ds vs → VRs T ρ H es zs → whD ds es ws = some xs → VRs T ρ H xs (gV vs zs)
def mMakeK (c n m np : Nat) (ws : List Wh) (g : MF) (mr mk : MA) : ME := fun σ D => match mr σ D with
  | .ok xs D1 => (match mk σ D1 with
    | .ok es D2 => cond (Nat.beq xs.length n) (cond (Nat.beq es.length m) (cond (Nat.blt D2.n bigN) (match whD (.loc D2.n :: xs) es ws with
      | some ys => cond (Nat.beq ys.length np) (match g ys (D2.add (.ins c [])) with
        | .ok .non D3 => .ok (.loc D2.n) D3
        | _ => .bad) .bad
      | none => .bad) .bad) .bad) .bad
    | .bad => .bad)
  | .bad => .bad
theorem PKw {X : Cx} {e : List Keyword} {t t' : TA} (h : PK X e t) (w : ∀ σ H Q, t' σ H Q → t σ H Q) : PK X e t' := ⟨fun pos pins s σ H Q I q => h.run pos pins s σ H Q I (w σ H Q q)⟩
section
variable {T : Tb} {k : Nat} {X : Cx} {e : Expr} {es : List Expr} {kws : List Keyword} {mr mk : MA} {me : ME} {p pos kpos : Pos} {x : Str} {nm : Option Str} {cn n np : Nat} {ks : List Str} {ws : List Wh} {g : MF}
theorem kx_nil : PK X [] (rA T aNil) := PKw pk_nil fun σ H Q ⟨ρ, σd, D, sr, hr, p⟩ => p ρ H [] (Up.refl _ _) hr rfl
theorem kx_cons (he : PE X e (rE T me)) (hk : PK X kws (rA T mk)) : PK X (⟨nm, e, kpos⟩ :: kws) (rA T (aCons me mk)) := by
  refine PKw (pk_cons he hk) fun σ H Q ⟨ρ, σd, D, sr, h, p⟩ => ⟨ρ, σd, D, sr, h, ?_⟩
  unfold aCons at p
  cases g : me σd D with
  | bad => rw [g] at p; exact p.elim
  | ok x D1 =>
    rw [g] at p
    intro ρ1 H1 v u1 h1 r1
    refine ⟨ρ1, σd, D1, sr.up u1, h1, ?_⟩
    dsimp only at p
    cases g2 : mk σd D1 with
    | bad => rw [g2] at p; exact p.elim
    | ok xs D2 =>
      rw [g2] at p
      intro ρ2 H2 vs u2 h2 r2
      exact p ρ2 H2 (v :: vs) (u1.trans u2) h2 ⟨v, vs, rfl, r1.up u2, r2⟩
theorem ex_makeK {j : Nat} (c : Cn T k X) (hj : j + 1 ≤ k) (d : MakeKAt T j x cn (n + 1) ks np ws g) (ha : PA X (e :: es) (rA T mr)) (hk : PK X kws (rA T mk)) (hg : Gl X x := by rfl)
    (h1 : ((backToKw pos (keywordEach kws X.env)).all fun x => x.1.isSome) = true := by rfl) (h2 : (backToKw pos (keywordEach kws X.env)).filterMap (fun x => x.1) = ks := by rfl) (h3 : (x == Str.ofString "__debug__") = false := by decide)
    (h4 : starEach (e :: es) X.env = (false, eval e X.env) :: starEach es X.env := by rfl) (h5 : (((backTo pos (starEach (e :: es) X.env)).any fun x => x.1) || (backToKw pos (keywordEach kws X.env)).any fun x => x.1.isNone) = false := by rfl) :
    PE X (.Call (.Name x p) (e :: es) kws pos) (rE T (mMakeK cn n ks.length np ws g mr mk)) := by
  obtain ⟨f, fd, ps, gu, gV, q1, q2, q3, q4, q5⟩ := d.ex
  refine PEw (pe_makeK (sp := spM T np g) (E := E0) (by rw [c.K]; exact q2) (by rw [c.P, c.w, c.K, c.mg, c.base]; exact q4) (c.room.mono hj) hg (by rw [c.mg]; exact q1) (by rw [c.K]; exact q3) pass0 ha hk h1 h2 h3 h4 h5) fun σ H Q ⟨ρ, σd, D, sr, hr, p⟩ => ⟨ρ, σd, D, sr, hr, ?_⟩
  unfold mMakeK at p
  cases e1 : mr σd D with
  | bad => rw [e1] at p; exact p.elim
  | ok xs D1 =>
    rw [e1] at p
    intro ρ1 H1 vs u1 h1 r1
    refine ⟨ρ1, σd, D1, sr.up u1, h1, ?_⟩
    dsimp only at p
    cases e2 : mk σd D1 with
    | bad => rw [e2] at p; exact p.elim
    | ok zs D2 =>
      rw [e2] at p
      intro ρ2 H2 us u2 h2 r2
      obtain ⟨c1, p1⟩ := cond_ok p
      obtain ⟨c2, p2⟩ := cond_ok p1
      obtain ⟨c3, p3⟩ := cond_ok p2
      have l1 := Nat.eq_of_beq_eq_true c1
      have l2 := Nat.eq_of_beq_eq_true c2
      refine ⟨by rw [r1.len]; exact l1, by rw [r2.len]; exact l2, fun a dx ha hdx hne => ?_⟩
      have u3 : Up ρ2 H2 ρ2 (upd H2 dx (.own a)) := up_new hdx
      have h3 := h2.new (o := .own a) hdx
      have ha2 : (upd H2 dx (.own a)) a = none := by rw [upd_ne hne.symm]; exact ha
      have u4 : Up ρ2 (upd H2 dx (.own a)) (ρ2 ++ [a]) (upd (upd H2 dx (.own a)) a (.ins (T.cls cn) dx [])) := up_add ha2
      have h4 : HR T (ρ2 ++ [a]) (D2.add (.ins cn [])) (upd (upd H2 dx (.own a)) a (.ins (T.cls cn) dx [])) := h3.add (blt_lt c3) ha2 ⟨dx, [], rfl, upd_same⟩
      have hl : (ρ2 ++ [a])[D2.n]? = some a := at_new h2.len
      cases e3 : whD (.loc D2.n :: xs) zs ws with
      | none => rw [e3] at p3; exact p3.elim
      | some ys =>
        rw [e3] at p3
        obtain ⟨c4, p4⟩ := cond_ok p3
        have r5 := q5 _ _ (.loc D2.n :: xs) zs (V.ref a :: vs) us ys (by rw [List.length_cons, l1]) l2 ⟨V.ref a, vs, rfl, ⟨a, hl, rfl⟩, (r1.up u2).up (u3.trans u4)⟩ (r2.up (u3.trans u4)) e3
        refine ⟨by rw [r5.len]; exact Nat.eq_of_beq_eq_true c4, ρ2 ++ [a], _, ys, h4, r5, ?_⟩
        cases e4 : g ys (D2.add (.ins cn [])) with
        | bad => rw [e4] at p4; exact p4.elim
        | ok d D3 =>
          rw [e4] at p4
          cases d with
          | non =>
            intro ρ6 H6 v u6 h6 r6
            cases r6
            exact ⟨rfl, p4 ρ6 H6 (.ref a) (u1.trans (u2.trans (u3.trans (u4.trans u6)))) h6 ⟨a, u6.at hl, rfl⟩⟩
          | _ => exact p4.elim
end
end FH

namespace FH
open PySem PySem.Spec PyProof.Rows L2

/-! ### list(d.values()) -/
theorem kv_vals {kvs : List (Key × V)} {vs : List (Key × Value)} (h : KV kvs vs) : Vals (kvs.map (·.2)) (vs.map (·.2)) := by
  induction h with
  | nil => exact .nil
  | cons a _ ih => exact .cons a.2 ih
theorem pe_listValues {X : Cx} {e : Expr} {te : TE} {p apos cpos pos : Pos} (hc : X.calm = true) (he : PE X e te) (hg : Gl X (Str.ofString "list")) (hm : X.mg (Str.ofString "list") = none) (hv : bootBuiltins (Str.ofString "list") = some (.type "list"))
    (hbase : attributeBase e (Str.ofString "values") X.env (eval e X.env) = eval e X.env) (hline : (apos.endLine == cpos.line) = true)
    (hs : starEach [.Call (.Attribute e (Str.ofString "values") apos) [] [] cpos] X.env = (false, eval (.Call (.Attribute e (Str.ofString "values") apos) [] [] cpos) X.env) :: starEach [] X.env) :
    PE X (.Call (.Name (Str.ofString "list") p) [.Call (.Attribute e (Str.ofString "values") apos) [] [] cpos] [] pos)
      (fun σ H Q => te σ H fun x H1 => ∃ d kvs, x = .ref d ∧ H1 d = some (.dK kvs) ∧ ∀ q, H1 q = none → Q (.ref q) (upd H1 q (.lst (kvs.map (·.2))))) := by
  refine ⟨fun pins s σ H Q I hq => wpAny_Call_Name_kw (ld_blt I hg hm hv (PyProof.Rows.callWith_type1 ?_ hs rfl) (by decide) (by decide))⟩
  rw [hs]
  refine Calls.spliced_cons (wpAny_Call_method hbase rfl hline F.plainAttrs_dict F.slot_dict_values F.type_dict_values (thn (he.run pins s σ H _ I hq) fun u s1 ⟨x, H1, I1, rx, d, kvs, ex, hd, q⟩ => ?_))
  subst ex
  cases rx
  obtain ⟨hz, hs0, vs, kv, hdo⟩ := I1.hok d _ hd
  obtain ⟨ep, hat⟩ := Heap.DictOf.dictAt hdo
  refine ⟨Heap.DictOf.typeIs hdo, Heap.MapOf.noDict (Heap.DictOf.mapOf hdo), ?_⟩
  refine method_meetsIn F.slot_dict_values F.entry_dict_values rfl (PySem.evalArgs_none ⟨rfl, Heap.DictOf.typeIs hdo, F.args_dict_values_1 (Value.ref d), _, meets_dict_values (mixKind X.prog X.w) d hs0, ⟨vs, hdo⟩, ?_⟩)
  refine Calls.spliced_nil ?_
  have lk : kvs.length = vs.length := Paired.length kv
  have I2 := Inv.kept (t' := s1.toks) I1 (h' := s1.heap.push { cls := Value.type "dict_values", data := Data.fields #[Value.ref d] }) fun b ob q => Heap.get?_push_of_some _ q
  refine W.kdl_call (W.kdl_values (knd := mixKind X.prog X.w) (d := d) (r := s1.heap.objs.size) (kvs := vs) (ep := ep)) (I1.ok.hd hc) ⟨⟨_, Heap.get?_push_size s1.heap rfl, rfl, rfl⟩, hat.push _⟩ (by rw [← lk]; exact hz) fun h' tk acc c hk hl hit => ?_
  have ha : acc.toList = vs.map (·.2) := by
    refine items_out (Pv := fun i v => ∃ k, vs[i]? = some (k, v)) (by rw [List.length_map]; exact hit) fun j v ⟨k, e⟩ => ?_
    rw [List.getElem?_map, e]; rfl
  have hsz : s1.heap.objs.size ≤ (s1.heap.push { cls := Value.type "dict_values", data := Data.fields #[Value.ref d] }).objs.size := by
    rw [Heap.size_push]; exact Nat.le_succ _
  have new : ObjOk X.prog X.w (upd H1 (s1.heap.push { cls := Value.type "dict_values", data := Data.fields #[Value.ref d] }).objs.size (.lst (kvs.map (·.2)))) h' (s1.heap.push { cls := Value.type "dict_values", data := Data.fields #[Value.ref d] }).objs.size (.lst (kvs.map (·.2))) := by
    refine ⟨by rw [List.length_map]; exact hz, vs.map (·.2), c, kv_vals kv, ?_⟩
    rw [← ha]
    exact hl
  have I3 := Inv.turnedNew (t' := tk) (ch := []) I2 (h' := h') (fun b o _ q => hk b o q) (fun b hb => by cases hb) (Nat.le_refl _) new
  exact ⟨V.ref _, _, I3, rfl, q _ (HOk.fresh I1.hok hsz)⟩
theorem KVR.vals {T : Tb} {ρ : List Addr} {H : Hp} : ∀ {kvs : List (DV × DV)} {ks : List (Key × V)}, KVR T ρ H kvs ks → VRs T ρ H (kvs.map (·.2)) (ks.map (·.2))
  | [], _, h => by subst h; rfl
  | (k, d) :: r, _, h => by
    obtain ⟨k', v, r', e, _, h2, h3⟩ := h
    subst e
    exact ⟨_, _, rfl, h2, KVR.vals h3⟩
def mListVals (m : ME) : ME := mUn (fun x D => match x with
  | .loc l => (match D.get l with
    | some (.dK false kvs) => D.new (.lst false (kvs.map (·.2)))
    | _ => .bad)
  | _ => .bad) m
theorem ex_listVals {T : Tb} {k : Nat} {X : Cx} {e : Expr} {m : ME} {p apos cpos pos : Pos} (c : Cn T k X) (he : PE X e (rE T m)) (hm : X.mg (Str.ofString "list") = none) (hg : Gl X (Str.ofString "list") := by rfl) (hv : bootBuiltins (Str.ofString "list") = some (.type "list") := by rfl)
    (hbase : attributeBase e (Str.ofString "values") X.env (eval e X.env) = eval e X.env := by rfl) (hline : (apos.endLine == cpos.line) = true := by rfl)
    (hs : starEach [.Call (.Attribute e (Str.ofString "values") apos) [] [] cpos] X.env = (false, eval (.Call (.Attribute e (Str.ofString "values") apos) [] [] cpos) X.env) :: starEach [] X.env := by rfl) :
    PE X (.Call (.Name (Str.ofString "list") p) [.Call (.Attribute e (Str.ofString "values") apos) [] [] cpos] [] pos) (rE T (mListVals m)) := by
  refine PEw (pe_listValues c.calm he hg hm hv hbase hline hs) fun σ H Q q => ?_
  refine tUn_of (T := T) (r := fun x H1 Q => ∃ d kvs, x = .ref d ∧ H1 d = some (.dK kvs) ∧ ∀ q, H1 q = none → Q (.ref q) (upd H1 q (.lst (kvs.map (·.2))))) (fun x H Q ⟨ρ, D, d, h, r, p⟩ => ?_) q
  dsimp only at p
  split at p
  · split at p
    · rename_i l _ kvs g
      obtain ⟨a, rfl, _, ks, rk, hd⟩ := h.at r g
      exact ⟨a, ks, rfl, hd, fun q hq => pE_new h p hq ⟨_, rk.vals.up (up_add hq), upd_same⟩⟩
    · exact p.elim
  · exact p.elim
end FH

namespace FH
open PySem PySem.Spec PyProof.Rows L2

/-! ### collecting a tuple's items -/
theorem collect_tuple {prog : Program} {w : World} {A : Around} {E : Value → Shared → Prop} {s : Shared} {t : Addr} {vs : List Value} {Q : List Value → Shared → Prop} (hl : s.heap.IsTuple t vs.toArray) (hsz : vs.length ≤ sizeLine)
    (h : ∀ h' : Heap, (∀ (b : Addr) (o : Obj), s.heap.get? b = some o → h'.get? b = some o) → Q vs { heap := h', gens := s.gens, drawn := s.drawn, toks := s.toks, os := s.os }) : wpAny (model prog w) A (collect (Value.ref t)) Q E s := by
  obtain ⟨o, ho, hc, n, hd⟩ := hl
  have lt := Heap.lt_size ho
  unfold collect
  refine wpAny_bind (wpAny_runValue (codeAny_builtin entry_proto_collect' ?_))
  refine wpAny_bind (wpAny_newList (wpAny_pure ⟨Code.quiet_builtin _ (by with_unfolding_all rfl), codeAny_builtin entry_list_iadd' ?_⟩) (Nat.zero_le _))
  have ho' := Heap.get?_push_of_some (seqObj "list" #[] 0) ho
  refine wpAny_bind ?_
  with_unfolding_all refine wpAny_pure (a := (Value.ref s.heap.objs.size, [Value.ref t])) ?_
  unfold Builtin.List.listExtendWith
  refine wpAny_bind (wpAny_typeOf (v := Value.ref t) (T := "tuple") (show ∃ o', _ = some o' ∧ _ from ⟨o, ho', hc⟩) ?_)
  refine wpAny_ite_true (by simp) ?_
  refine wpAny_bind (listItems_at ho' hd (wpAny_bind (listItems_at (Heap.get?_push_size s.heap rfl) rfl ?_)))
  refine wpAny_ite_false (by simp) ?_
  refine wpAny_bind (listUpdate_at (Heap.get?_push_size s.heap rfl) rfl (wpAny_pure ?_) ?_ ?_)
  · refine wpAny_bind (wpAny_load (get?_update_seq (Heap.get?_push_size s.heap rfl) fun x => x ++ vs.toArray) ?_)
    have e : (#[] ++ vs.toArray).toList = vs := by simp
    show wpAny (model prog w) A (pure (#[] ++ vs.toArray).toList) Q E _
    rw [e]
    refine wpAny_pure (h _ fun b ob hb => ?_)
    have nb : b ≠ s.heap.objs.size := Nat.ne_of_lt (Heap.lt_size hb)
    exact ((Heap.SameBut.update (s.heap.push { cls := Value.type "list", data := Data.seq #[] }) s.heap.objs.size (Obj.mapSeq fun x => x ++ vs.toArray)).2 b nb).trans (Heap.get?_push_of_some _ hb)
  · exact Nat.zero_le _
  · simp; omega
theorem sorted_coll {prog : Program} {w : World} {A : Around} {E : Value → Shared → Prop} {s : Shared} {v : Value} {Q : Value → Shared → Prop}
    (hcol : wpAny (model prog w) A.in1 (collect v) (fun vs s1 => ∃ ss, StrsAre vs ss ∧ vs.length < 64 ∧ ∀ (h2 : Heap) (us : List Value) (ys : List Str) (e : Nat), (∀ (b : Addr) (o : Obj), s1.heap.get? b = some o → h2.get? b = some o) → h2.get? s1.heap.objs.size = some (seqObj "list" us.toArray e) → StrsAre us ys → ys.Perm ss → sortedS ys = true →
      Q (Value.ref s1.heap.objs.size) { heap := h2, gens := s1.gens, drawn := s1.drawn, toks := s1.toks, os := s1.os }) E s) : wpAny (model prog w) A (call (Value.builtin "sorted") [v]) Q E s := by
  refine Calls.call_function_entry kind_sorted plain_sorted entry_sorted (args_sorted1 v) ?_
  unfold Builtin.sorted
  refine wpAny_bind ?_
  with_unfolding_all refine wpAny_pure (a := ()) ?_
  refine wpAny_bind (thn hcol fun vs s1 ⟨ss, hS, h64, k⟩ => ?_)
  refine wpAny_bind (wpAny_newList ?_ (by rw [sizeLine_eq]; omega))
  have hoL : (s1.heap.push { cls := Value.type "list", data := Data.seq vs.toArray }).get? s1.heap.objs.size = some (seqObj "list" vs.toArray 0) := Heap.get?_push_size s1.heap rfl
  refine wpAny_bind (wpAny_holding (wpAny_call_entry slot_list_sort ⟨seqObj "list" vs.toArray 0, hoL, rfl⟩ entry_list_sort (list_sort_treeK strKind_oneLt hoL (StrsAre.keysOf hS) (fun v₁ v₂ rest e => keyKind_strs (by rw [← e]; exact hS)) h64 fun st' hp hs => ⟨Value.none, rfl, ?_⟩) (args_list_sort _)))
  obtain ⟨ys, g1, g2, g3⟩ := sorted_out_str hS hp hs
  obtain ⟨e', he'⟩ := sortedHeap_at (out := Array.map (fun x => x.snd) (arrOf st')) hoL
  refine wpAny_pure ⟨_, rfl, k _ (Array.map (fun x => x.snd) (arrOf st')).toList ys e' (fun b o hb => ?_) ?_ g1 g2 g3⟩
  · have lb := Heap.lt_size hb
    refine (sortedHeap_old (Nat.ne_of_lt lb) ?_).trans (Heap.get?_push_of_some _ hb)
    rw [size_push']; exact Nat.lt_succ_of_lt lb
  · rw [Array.toArray_toList]; exact he'
theorem strs_of_vals : ∀ {xs : List Str} {us : List Value}, Vals (xs.map V.str) us → StrsAre us xs
  | [], us, h => by cases h; exact .nil
  | x :: xs, us, h => by
    cases h with
    | cons r t =>
      obtain ⟨k, rfl⟩ := r
      exact .cons x k (strs_of_vals t)
theorem vals_of_strs : ∀ {xs : List Str} {us : List Value}, StrsAre us xs → Vals (xs.map V.str) us
  | _, _, .nil => .nil
  | _, _, .cons y t h => .cons ⟨t, rfl⟩ (vals_of_strs h)
theorem cr_sortedST {X : Cx} : CallR X (.builtin "sorted") (fun vs H Q => ∃ (a : Addr) (xs : List Str), vs = [.ref a] ∧ SqT X.K H a (xs.map V.str) ∧ xs.length < 64 ∧ ∀ (ys : List Str) (p : Addr), ys.Perm xs → sortedS ys = true → H p = none → Q (.ref p) (upd H p (.lst (ys.map V.str)))) := by
  intro pins s σ H xs us Q I rx ⟨a, ss, e, hq, hl, k⟩
  subst e
  cases rx with
  | cons r t =>
    cases t
    cases r
    obtain ⟨its, rv, p, hz⟩ := I.tuple hq
    have hs := strs_of_vals rv
    have li : its.length = ss.length := by
      have := Vals.length rv
      rw [List.length_map] at this
      exact this.symm
    refine sorted_coll (collect_tuple p (by rw [li, sizeLine_eq]; omega) fun h' hk => ⟨ss, hs, by rw [li]; exact hl, fun h2 us ys e hk2 ha g1 g2 g3 => ?_⟩)
    have I1 := Inv.kept (t' := s.toks) I hk
    have ly : ys.length = ss.length := g2.length_eq
    have I2 := Inv.laid (t' := s.toks) (o := .lst (ys.map V.str)) I1 (h' := h2) (fun b u hb => hk2 b u hb) (Nat.le_refl _) ⟨by rw [List.length_map, ly, sizeLine_eq]; omega, us, e, vals_of_strs g1, ha⟩
    exact ⟨V.ref _, _, I2, rfl, k ys _ g2 g3 (HOk.fresh I1.hok (Nat.le_refl _))⟩

/-! ### the order of texts, by their codes -/
def strsB : List DV → Bool
  | [] => true
  | .str _ :: r => strsB r
  | _ :: _ => false
def strsD : List DV → List (List Nat)
  | .str c :: r => c :: strsD r
  | _ => []
theorem strs_ok {T : Tb} {ρ : List Addr} {H : Hp} : ∀ {ds : List DV} {vs : List V}, strsB ds = true → VRs T ρ H ds vs → vs = ((strsD ds).map fun c => (⟨c.toArray⟩ : Str)).map V.str ∧ (strsD ds).length = ds.length
  | [], vs, _, r => by cases r; exact ⟨rfl, rfl⟩
  | d :: ds, vs, h, r => by
    cases d with
    | str c =>
      obtain ⟨v, w, rfl, h1, h2⟩ := r
      cases h1
      obtain ⟨e1, e2⟩ := strs_ok (ds := ds) h h2
      exact ⟨by rw [e1]; rfl, by show (strsD ds).length + 1 = ds.length + 1; rw [e2]⟩
    | _ => cases h
def insN (x : List Nat) : List (List Nat) → List (List Nat)
  | [] => [x]
  | y :: r => cond (natsLt y x) (y :: insN x r) (x :: y :: r)
def sortN : List (List Nat) → List (List Nat)
  | [] => []
  | x :: r => insN x (sortN r)
theorem insN_perm (x : List Nat) : ∀ l, (insN x l).Perm (x :: l)
  | [] => .refl _
  | y :: r => by
    unfold insN
    cases natsLt y x with
    | true => exact ((insN_perm x r).cons y).trans (.swap x y r)
    | false => exact .refl _
theorem sortN_perm : ∀ l, (sortN l).Perm l
  | [] => .refl _
  | x :: r => (insN_perm x (sortN r)).trans ((sortN_perm r).cons x)
abbrev leN (a b : List Nat) : Prop := natsLt b a = false
theorem leN_iff {a b : List Nat} : leN a b ↔ ¬ b < a := by
  unfold leN
  rw [natsLt_dec]
  simp
theorem leN_trans {a b c : List Nat} (h1 : leN a b) (h2 : leN b c) : leN a c := by
  rw [leN_iff] at *
  have h1 : a ≤ b := h1
  have h2 : b ≤ c := h2
  exact List.le_trans h1 h2
theorem leN_antisymm {a b : List Nat} (h1 : leN a b) (h2 : leN b a) : a = b := by
  rw [leN_iff] at *
  have h1 : a ≤ b := h1
  have h2 : b ≤ a := h2
  exact List.le_antisymm h1 h2
theorem leN_of_lt {a b : List Nat} (h : natsLt a b = true) : leN a b := by
  rw [leN_iff]
  rw [natsLt_dec] at h
  exact fun q => List.lt_irrefl a (List.lt_trans (by simpa using h) q)
theorem insN_pw (x : List Nat) : ∀ {l}, l.Pairwise leN → (insN x l).Pairwise leN
  | [], _ => List.pairwise_singleton _ _
  | y :: r, h => by
    unfold insN
    rw [List.pairwise_cons] at h
    cases e : natsLt y x with
    | true =>
      rw [cond_true, List.pairwise_cons]
      refine ⟨fun z hz => ?_, insN_pw x h.2⟩
      rcases List.mem_cons.mp ((insN_perm x r).mem_iff.mp hz) with rfl | hz
      · exact leN_of_lt e
      · exact h.1 z hz
    | false =>
      rw [cond_false, List.pairwise_cons]
      refine ⟨fun z hz => ?_, List.pairwise_cons.mpr h⟩
      rcases List.mem_cons.mp hz with rfl | hz
      · exact e
      · exact leN_trans e (h.1 z hz)
theorem sortN_pw : ∀ l, (sortN l).Pairwise leN
  | [] => .nil
  | x :: r => insN_pw x (sortN_pw r)
theorem ltCps_nats : ∀ a b : List Nat, ltCps a b = natsLt a b
  | [], [] => rfl
  | [], _ :: _ => rfl
  | _ :: _, [] => rfl
  | a :: r, b :: t => by
    rw [ltCps.eq_4, ltCps_nats r t]
    show _ = cond (Nat.blt a b) true (cond (Nat.beq a b) (natsLt r t) false)
    cases e : Nat.blt a b with
    | true => rw [decide_eq_true (blt_lt e)]; rfl
    | false =>
      have nl : ¬ a < b := fun q => by rw [show Nat.blt a b = true from Nat.ble_eq_true_of_le q] at e; cases e
      rw [decide_eq_false nl]
      cases e2 : Nat.beq a b with
      | true => rw [Nat.eq_of_beq_eq_true e2]; simp
      | false =>
        have ne := Nat.ne_of_beq_eq_false e2
        simp [ne]
theorem rising_pw : ∀ (x : Str) (l : List Str), risingS x l = true → ((x :: l).map fun y : Str => y.cps.toList).Pairwise leN
  | x, [], _ => List.pairwise_singleton _ _
  | x, y :: r, h => by
    rw [risingS.eq_2, Bool.and_eq_true] at h
    have ih := rising_pw y r h.2
    have h1 : leN x.cps.toList y.cps.toList := by
      show natsLt y.cps.toList x.cps.toList = false
      rw [← ltCps_nats]
      simpa using h.1
    rw [List.map_cons, List.pairwise_cons]
    refine ⟨fun z hz => ?_, ih⟩
    rw [List.map_cons, List.pairwise_cons] at ih
    rw [List.map_cons] at hz
    rcases List.mem_cons.mp hz with rfl | hz
    · exact h1
    · exact leN_trans h1 (ih.1 z hz)
theorem sorted_pw : ∀ {l : List Str}, sortedS l = true → (l.map fun y : Str => y.cps.toList).Pairwise leN
  | [], _ => .nil
  | x :: l, h => rising_pw x l h
theorem sorted_eq {cs : List (List Nat)} {ys : List Str} (hp : ys.Perm (cs.map stN)) (hs : sortedS ys = true) : ys = (sortN cs).map stN := by
  have h1 : (ys.map fun y : Str => y.cps.toList).Perm cs := by
    have := hp.map (fun y : Str => y.cps.toList)
    rw [List.map_map] at this
    have e : ((fun y : Str => y.cps.toList) ∘ stN) = id := by funext c; simp
    rwa [e, List.map_id] at this
  have h2 : (ys.map fun y : Str => y.cps.toList) = sortN cs := List.Perm.eq_of_pairwise (fun a b _ _ => leN_antisymm) (sorted_pw hs) (sortN_pw cs) (h1.trans (sortN_perm cs).symm)
  rw [← h2, List.map_map]
  have e : (stN ∘ fun y : Str => y.cps.toList) = id := by funext y; simp
  rw [e, List.map_id]
theorem strN_vrs {T : Tb} {ρ : List Addr} {H : Hp} : ∀ cs : List (List Nat), VRs T ρ H (cs.map DV.str) ((cs.map stN).map V.str)
  | [] => rfl
  | c :: r => ⟨_, _, rfl, rfl, strN_vrs r⟩
/-- sorted of a list, a tuple, a dict of texts -/
def sItems (D : DH) : DV → Option (List DV)
  | .tup xs => some xs
  | .loc l => (match D.get l with
    | some (.lst _ xs) => some xs
    | some (.dK _ kvs) => some (kvs.map (·.1))
    | _ => none)
  | _ => none
def bSorted (xs : List DV) (D : DH) : R DV := match xs with
  | [x] => (match sItems D x with
    | some ys => cond (strsB ys) (cond (Nat.blt ys.length 64) (D.new (.lst false ((sortN (strsD ys)).map DV.str))) .bad) .bad
    | none => .bad)
  | _ => .bad
theorem keys_strs {T : Tb} {ρ : List Addr} {H : Hp} : ∀ {kvs : List (DV × DV)} {ks : List (Key × V)}, KVR T ρ H kvs ks → strsB (kvs.map (·.1)) = true → ks.map (·.1) = ((strsD (kvs.map (·.1))).map stN).map Sum.inr
  | [], _, h, _ => by cases h; rfl
  | (k, d) :: r, _, h, c => by
    obtain ⟨k', v, r', rfl, h1, h2, h3⟩ := h
    cases k with
    | str s =>
      cases h1
      have := keys_strs h3 c
      show _ :: _ = _ :: _
      rw [this]
    | _ => cases c
theorem strsD_len : ∀ {ds : List DV}, strsB ds = true → (strsD ds).length = ds.length
  | [], _ => rfl
  | d :: ds, h => by
    cases d with
    | str c => show (strsD ds).length + 1 = ds.length + 1; rw [strsD_len (ds := ds) h]
    | _ => cases h
theorem call_sortedM {T : Tb} {k : Nat} {X : Cx} (c : Cn T k X) : CallR X (.builtin "sorted") (rC T bSorted) := CallRw ((cr_sortedS.or cr_sortedST).or (call_sortedD c.calm)) fun vs H Q ⟨ρ, D, as, h, r, p⟩ => by
  unfold bSorted at p
  split at p
  · obtain ⟨v, rfl, rr⟩ := r.one; have r := rr; clear rr
    split at p
    · rename_i x _ _ _ ys g
      obtain ⟨c1, p1⟩ := cond_ok p
      obtain ⟨c2, p2⟩ := cond_ok p1
      have l64 := blt_lt c2
      have fin : ∀ (zs : List Str) (q : Addr), zs.Perm ((strsD ys).map stN) → sortedS zs = true → H q = none → Q (.ref q) (upd H q (.lst (zs.map V.str))) := fun zs q hp hs hq => by
        rw [sorted_eq hp hs]
        exact pE_new h p2 hq ⟨_, strN_vrs _, upd_same⟩
      cases x with
      | tup xs =>
        cases g
        obtain ⟨a, us, rfl, s, ru⟩ := r
        obtain ⟨e1, e2⟩ := strs_ok c1 ru
        refine .inl (.inr ⟨a, (strsD ys).map stN, rfl, by rw [c.K, ← e1]; exact s, by rw [List.length_map, e2]; exact l64, fin⟩)
      | loc l =>
        dsimp only [sItems] at g
        split at g
        · rename_i fz xs g2
          cases g
          obtain ⟨a, rfl, _, j⟩ := h.at r g2
          obtain ⟨us, ru, s⟩ := j.seqL
          obtain ⟨e1, e2⟩ := strs_ok c1 ru
          refine .inl (.inl ⟨a, (strsD ys).map stN, rfl, by rw [c.K, ← e1]; exact s, by rw [List.length_map, e2]; exact l64, fin⟩)
        · rename_i fz kvs g2
          cases g
          obtain ⟨a, rfl, _, j⟩ := h.at r g2
          obtain ⟨ks, rk, hd⟩ := j.rdK
          refine .inr ⟨a, ks, (strsD (kvs.map (·.1))).map stN, rfl, hd, keys_strs rk c1, by rw [List.length_map, strsD_len c1]; exact l64, fin⟩
        · cases g
      | _ => cases g
    · exact p.elim
  · exact p.elim
end FH

namespace FH
open PySem PySem.Spec PyProof.Rows L2

/-! ### max(list of ints, default=d) -/
theorem ints_reads {h : Heap} : ∀ {ns : List Int} {us : List Value}, Vals (ns.map V.int) us → ReadsAll h us (ns.map PyData.int) []
  | [], us, r => by cases r; exact .nil
  | n :: ns, us, r => by
    cases r with
    | cons a t =>
      obtain ⟨k, rfl⟩ := a
      exact ReadsAll.cons (as := []) (bs := []) (.int n k) (ints_reads t)
theorem lt_int (a b : Int) : W.dataLt (.int a) (.int b) = PySem.W.Z.ltB a b := by
  rw [ltB_dec]
  simp [W.dataLt, W.keyToks, PyProof.Rows.lexLt, itemOrd]
  first
    | rfl
    | (unfold itemLt; simp)
theorem maxD_int : ∀ (l : List Int) (m : Int), W.maxD (.int m) (l.map PyData.int) = .int (bestI true m l)
  | [], m => rfl
  | i :: r, m => by
    have ih1 := maxD_int r m
    have ih2 := maxD_int r i
    unfold W.maxD at *
    rw [List.map_cons, List.foldl_cons, lt_int]
    show List.foldl _ _ _ = PyData.int (cond (PySem.W.Z.ltB m i) (bestI true i r) (bestI true m r))
    cases PySem.W.Z.ltB m i with
    | true => rw [if_pos rfl]; exact ih2
    | false => rw [if_neg (by simp)]; exact ih1
theorem ints_depth : ∀ ns : List Int, PyData.depthAll (ns.map PyData.int) = 0
  | [] => rfl
  | n :: ns => by
    show max 0 (PyData.depthAll (ns.map PyData.int)) = 0
    rw [ints_depth ns]; rfl
def dMaxD (x d : DV) (D : DH) : R DV := match listOf D x with
  | some ys => cond (intsB ys) (match intsD ys with
    | [] => .ok d D
    | i :: r => .ok (.int (bestI true i r)) D) .bad
  | none => .bad
theorem ex_maxD {T : Tb} {k : Nat} {X : Cx} {e v : Expr} {me mv : ME} {p kpos pos : Pos} (c : Cn T k X) (he : PE X e (rE T me)) (hv : PE X v (rE T mv)) (hm : X.mg (Str.ofString "max") = none) (hg : Gl X (Str.ofString "max") := by rfl) (hb : bootBuiltins (Str.ofString "max") = some (.builtin "max") := by rfl)
    (h1 : backTo pos (starEach [e] X.env) = (false, eval e X.env) :: backTo pos (starEach [] X.env) := by rfl) (h2 : (backTo pos (starEach [e] X.env)).any (fun x => x.1) = false := by rfl)
    (h3 : ((backToKw pos (keywordEach [⟨some (Str.ofString "default"), v, kpos⟩] X.env)).all fun x => x.1.isSome) = true := by rfl)
    (h4 : ((backToKw pos (keywordEach [⟨some (Str.ofString "default"), v, kpos⟩] X.env)).any fun x => x.1.isNone) = false := by rfl)
    (h5 : (backToKw pos (keywordEach [⟨some (Str.ofString "default"), v, kpos⟩] X.env)).filterMap (fun x => x.1) = [Str.ofString "default"] := by rfl) :
    PE X (.Call (.Name (Str.ofString "max") p) [e] [⟨some (Str.ofString "default"), v, kpos⟩] pos) (rE T (mBin dMaxD me mv)) := by
  refine ⟨fun pins s σ H Q I q => wpAny_Call_Name_kw (ld_blt I hg hm hb (callWith_kw ?_ h1 h2 h3 h4) (by decide) (by decide))⟩
  obtain ⟨ρ, σd, D, sr, hr, p⟩ := q
  rw [h5]
  have es : backTo pos (starEach [e] X.env) = (false, eval e X.env) :: [] := h1
  rw [es]
  refine Calls.spliced_cons (thn (he.run pins s σ H (fun x H1 => ∃ ρ1 D1 d, Up ρ H ρ1 H1 ∧ HR T ρ1 D1 H1 ∧ VR T ρ1 H1 d x ∧ me σd D = .ok d D1) I ⟨ρ, σd, D, sr, hr, ?_⟩) fun u s1 ⟨x, H1, I1, rx, ρ1, D1, d, u1, hr1, rd, em⟩ => ?_)
  · unfold mBin at p
    cases g : me σd D with
    | bad => rw [g] at p; exact p.elim
    | ok d D1 => exact fun ρ' H' v' u' h' r' => ⟨ρ', D1, d, u', h', r', rfl⟩
  refine Calls.spliced_nil ?_
  unfold mBin at p
  rw [em] at p
  dsimp only at p
  cases g2 : mv σd D1 with
  | bad => rw [g2] at p; exact p.elim
  | ok d2 D2 =>
    rw [g2] at p
    refine thn ((pk_cons (kpos := kpos) (nm := some (Str.ofString "default")) hv pk_nil).run pos pins s1 σ H1 (fun ws H2 => ∃ y ρ2, ws = [y] ∧ Up ρ1 H1 ρ2 H2 ∧ HR T ρ2 D2 H2 ∧ VR T ρ2 H2 d2 y) I1 ⟨ρ1, σd, D1, sr.up u1, hr1, ?_⟩) fun ws s2 ⟨ys', H2, I2, rys, y, ρ2, eys, u2, hr2, rd2⟩ => ?_
    · rw [g2]
      exact fun ρ' H' v' u' h' r' => ⟨v', ρ', rfl, u', h', r'⟩
    subst eys
    obtain ⟨w, rfl, ry⟩ : ∃ w, ws = [w] ∧ L2.RelV y w := by
      cases rys with
      | cons ry tl => cases tl; exact ⟨_, rfl, ry⟩
    show wpAny _ _ (call (Value.builtin "max") [u] [(Str.ofString "default", w)]) _ _ _
    have uu : Up ρ H ρ2 H2 := u1.trans u2
    have p : pE T ρ2 H2 (dMaxD d d2 D2) Q := pE.up uu p
    unfold dMaxD at p
    cases g3 : listOf D2 d with
    | none => rw [g3] at p; exact p.elim
    | some ys =>
      rw [g3] at p
      obtain ⟨ci, p⟩ := cond_ok p
      obtain ⟨a, vs, rfl, rv, sq⟩ := listOf_ok hr2 (rd.up u2) g3
      cases rx
      obtain ⟨e1, e2⟩ := ints_ok ci rv
      subst e1
      obtain ⟨its, ri, pl, hz⟩ := I2.list (by rw [c.K]; exact sq)
      have rs := ints_reads (h := s2.heap) ri
      have al : W.AlikeAll ((intsD ys).map PyData.int) := by
        refine ⟨fun x hx y hy => ?_, fun x hx => ?_⟩
        · obtain ⟨i, _, rfl⟩ := List.mem_map.mp hx
          obtain ⟨j, _, rfl⟩ := List.mem_map.mp hy
          rfl
        · obtain ⟨i, _, rfl⟩ := List.mem_map.mp hx
          intro z; cases z
      refine W.max_list_default (I2.ok.hd c.calm) pl.isList (by rw [List.toList_toArray]; exact rs) al (by rw [ints_depth]; have := c.units; omega) (fun en h' tk hk => ?_) (fun y zs i v' h' tk bs en ei rd' hk => ?_)
      · have en : intsD ys = [] := List.map_eq_nil_iff.mp en
        rw [en] at p
        exact ⟨_, H2, Inv.kept I2 hk, ry, pE_ok hr2 rd2 p⟩
      · cases en2 : intsD ys with
        | nil => rw [en2] at en; cases en
        | cons n l =>
          rw [en2] at p en
          rw [List.map_cons] at en
          obtain ⟨rfl, rfl⟩ := List.cons.inj en
          rw [maxD_int] at rd'
          cases rd' with
          | int _ t => exact ⟨.int _, H2, Inv.kept I2 hk, ⟨t, rfl⟩, pE_ok hr2 (d := .int _) rfl p⟩
end FH

namespace FH
open PySem PySem.Spec PyProof.Rows L2

/-! ### comprehensions of any number of clauses -/
inductive IsComp : Expr → Prop
  | l (x : Expr) (gs : List Comprehension) (sc : Scope) (p : Pos) : IsComp (.ListComp x gs sc p)
  | s (x : Expr) (gs : List Comprehension) (sc : Scope) (p : Pos) : IsComp (.SetComp x gs sc p)
  | d (k v : Expr) (gs : List Comprehension) (sc : Scope) (p : Pos) : IsComp (.DictComp k v gs sc p)
/-- one clause's turn: an item, stored and tested, then `next` -/
def turnIs (e : Expr) (d : Nat) (it acc : Value) (env : Env) (tg iter : Expr) (ifs : List Expr) (next : Sem Unit) : Prop :=
  compTurn e d it acc env = (do
    standAt iter.pos
    match ← pyNext it with
    | none => pure (.done .next)
    | some v =>
      letOwnedTupleGo tg it v
      assign tg env v
      let mut ok := true
      for c in ifs do
        if ok then ok ← isTrue c env (eval c env)
      if ok then next
      again (.compLoop e d it acc env))
/-- the next clause's source and loop -/
def subC (e : Expr) (d : Nat) (acc : Value) (env : Env) (iter : Expr) : Sem Unit := do
  let x ← eval iter env
  standAt iter.pos
  let x ← foldedSetIterable iter env x
  let _ ← runOwn (.compStart e d (← holding [x] (pyIter x)) acc env) env
def noErr : Value → Shared → Prop := fun _ _ => False
section
variable {prog : Program} {w : World} {A : Around} {R : Result → Shared → Prop} {s : Shared} {e tg iter : Expr} {ifs : List Expr} {it acc : Value} {env : Env} {d : Nat} {next : Sem Unit}
theorem turn_any {n : Nat} {I : Nat → Shared → Prop} {E : Value → Shared → Prop} (ht : turnIs e d it acc env tg iter ifs next)
    (h : wpAny (model prog w) A (pyNext it) (fun r s₁ => match r with
      | none => R (.ok .next) s₁
      | some v => wpAny (model prog w) A (letOwnedTupleGo tg it v) (fun _ s₁' => wpAny (model prog w) A (assign tg env v) (fun _ s₂ =>
          wpAny (model prog w) A (forIn ifs true fun c r => if r = true then do let ok ← isTrue c env (eval c env); pure (ForInStep.yield ok) else pure (ForInStep.yield r)) (fun ok s₃ =>
            if ok = true then wpAny (model prog w) A next (fun _ s₄ => ∃ m, m < n ∧ I m s₄) noErr s₃ else ∃ m, m < n ∧ I m s₃) noErr s₂) noErr s₁') noErr s₁) noErr s) :
    wpAny (model prog w) A (compTurn e d it acc env) (fun fin s' => match fin with | .done f => R (.ok f) s' | .again c' => c' = .compLoop e d it acc env ∧ ∃ m, m < n ∧ I m s') E s := by
  have ht : compTurn e d it acc env = _ := ht
  rw [ht]
  refine wpAny_bind (wpAny_standAt (wpAny_bind (thnF h fun r s₁ h₁ => ?_)))
  cases r with
  | none => exact wpAny_pure h₁
  | some v =>
    refine wpAny_bind (thnF h₁ fun _ s₁' h₁' => ?_)
    refine wpAny_bind (thnF h₁' fun _ s₂ h₂ => wpAny_bind (thnF h₂ fun ok s₃ h₃ => ?_))
    cases ok with
    | false => exact wpAny_pure ⟨rfl, h₃⟩
    | true => exact wpAny_bind (thnF h₃ fun _ s₄ h₄ => wpAny_pure ⟨rfl, h₄⟩)
theorem loop_turns (hk : IsComp e) (ht : turnIs e d it acc env tg iter ifs next) (I : Nat → Shared → Prop)
    (turn : ∀ n s, I n s → wpAny (model prog w) A (pyNext it) (fun r s₁ => match r with
      | none => R (.ok .next) s₁
      | some v => wpAny (model prog w) A (letOwnedTupleGo tg it v) (fun _ s₁' => wpAny (model prog w) A (assign tg env v) (fun _ s₂ =>
          wpAny (model prog w) A (forIn ifs true fun c r => if r = true then do let ok ← isTrue c env (eval c env); pure (ForInStep.yield ok) else pure (ForInStep.yield r)) (fun ok s₃ =>
            if ok = true then wpAny (model prog w) A next (fun _ s₄ => ∃ m, m < n ∧ I m s₄) noErr s₃ else ∃ m, m < n ∧ I m s₃) noErr s₂) noErr s₁') noErr s₁) noErr s)
    (n : Nat) (h : I n s) : codeAny (model prog w) A (.compLoop e d it acc env) R s := by
  cases hk with
  | l x gs sc p =>
    refine codeAny_loop rfl I (fun n s hI => ?_) n h
    show wpAny _ A ((compTurn (.ListComp x gs sc p) d it acc env).onRaise (fun x => do noteFrame x env; theTreesLotGoes x)) _ _ s
    exact wpAny_noted (turn_any ht (turn n s hI))
  | s x gs sc p =>
    refine codeAny_loop rfl I (fun n s hI => ?_) n h
    show wpAny _ A ((compTurn (.SetComp x gs sc p) d it acc env).onRaise (fun x => do noteFrame x env; theTreesLotGoes x)) _ _ s
    exact wpAny_noted (turn_any ht (turn n s hI))
  | d k v gs sc p =>
    refine codeAny_loop rfl I (fun n s hI => ?_) n h
    show wpAny _ A ((compTurn (.DictComp k v gs sc p) d it acc env).onRaise (fun x => do noteFrame x env; theTreesLotGoes x)) _ _ s
    exact wpAny_noted (turn_any ht (turn n s hI))
theorem start_any {E : Value → Shared → Prop} {iter tg : Expr} {ifs : List Expr} {q : Code → Prop} (he : (clausesOf e)[d]? = some ⟨tg, iter, ifs, 0⟩)
    (h0 : q (.compLoop e d it acc env) ∧ codeAny (model prog w) A (.compLoop e d it acc env) R s)
    (h : wpAny (model prog w) A (pyIter it) (fun it' s' => q (.compLoop e d it' acc env) ∧ codeAny (model prog w) A (.compLoop e d it' acc env) R s') E s) :
    wpAny (model prog w) A (compStart e d it acc env) (fun fin s' => match fin with | .done f => R (.ok f) s' | .again c' => q c' ∧ codeAny (model prog w) A c' R s') E s := by
  unfold compStart
  rw [he]
  show wpAny _ _ (ask >>= _) _ _ s
  refine wpAny_bind (wpAny_askSetting (wpAny_ite ?_))
  split
  · first
      | exact wpAny_bind (wpAny_pure (wpAny_pure h0))
      | exact wpAny_pure h0
  · refine wpAny_bind (wpAny_rule ?_)
    show wpAny _ _ (standAt iter.pos >>= _) _ _ s
    exact wpAny_bind (wpAny_standAt (wpAny_bind (wpAny_mono h (fun it' s' h' => wpAny_pure h') fun _ _ x => x)))
theorem start_turns (hk : IsComp e) (he : (clausesOf e)[d]? = some ⟨tg, iter, ifs, 0⟩)
    (h0 : codeAny (model prog w) A (.compLoop e d it acc env) R s)
    (h : wpAny (model prog w) A (pyIter it) (fun it' s' => codeAny (model prog w) A (.compLoop e d it' acc env) R s') noErr s) :
    codeAny (model prog w) A (.compStart e d it acc env) R s := by
  cases hk with
  | l x gs sc p =>
    refine codeAny_of_tree ?_
    show wpAny _ _ ((compStart (.ListComp x gs sc p) d it acc env).onRaise (fun x => do noteFrame x env; standAt theWindowsPlace)) _ _ s
    exact wpAny_notedAt (start_any he ⟨rfl, h0⟩ (thnF h fun _ _ h' => ⟨rfl, h'⟩))
  | s x gs sc p =>
    refine codeAny_of_tree ?_
    show wpAny _ _ ((compStart (.SetComp x gs sc p) d it acc env).onRaise (fun x => do noteFrame x env; standAt theWindowsPlace)) _ _ s
    exact wpAny_notedAt (start_any he ⟨rfl, h0⟩ (thnF h fun _ _ h' => ⟨rfl, h'⟩))
  | d k v gs sc p =>
    refine codeAny_of_tree ?_
    show wpAny _ _ ((compStart (.DictComp k v gs sc p) d it acc env).onRaise (fun x => do noteFrame x env; standAt theWindowsPlace)) _ _ s
    exact wpAny_notedAt (start_any he ⟨rfl, h0⟩ (thnF h fun _ _ h' => ⟨rfl, h'⟩))
end
abbrev TU := L2.St → Hp → (Hp → Prop) → Prop
/-- what stands behind a clause's tests: the next clause, or the element; vs: the slots that it may change -/
structure KU (X : Cx) (next : Sem Unit) (vs : List Nat) (t : TU) : Prop where
  run : ∀ (pins : List (Addr × Obj)) (s : Shared) (σ : L2.St) (H : Hp) (N : Hp → Prop), L2.Inv X pins σ H s → t σ H N →
    wpAny (model X.prog X.w) X.A next (fun _ s' => ∃ σ' H', L2.Inv X pins σ' H' s' ∧ σ'.length = σ.length ∧ (∀ (j : Nat) (v : V), (wipe σ vs)[j]? = some (some v) → σ'[j]? = some (some v)) ∧ N H') X.xe s
def tCl (wi : TI) (g : TG) (tt : TT) (t : TU) (vs : List Nat) : TU := fun σ H N => wi σ H fun J H1 => ∃ W : Nat → Nat → Hp → Prop, (∃ m, W 0 m H1) ∧ ∀ j k H, W j k H →
  (J.stop j H ∧ N H) ∨ (J.go j H ∧ ∃ Nx : Hp → Prop, (∀ H', Nx H' → ∃ k', k' < k ∧ W (j + 1) k' H') ∧ ∀ x H', J.yld j H x H' → g x (wipe σ vs) H' fun σ1 H2 => wipe σ1 vs = wipe σ vs ∧ tt σ1 H2 fun b H3 =>
    if b = true then t σ1 H3 Nx else Nx H3)
section
variable {X : Cx}
theorem keep_back {σ0 σ σ' : L2.St} {vs vs' : List Nat} (hw : wipe σ vs = wipe σ0 vs) (hv : ∀ i ∈ vs', i ∈ vs) (hk : ∀ (j : Nat) (v : V), (wipe σ vs')[j]? = some (some v) → σ'[j]? = some (some v)) (j : Nat) (v : V) (e : (wipe σ0 vs)[j]? = some (some v)) : σ'[j]? = some (some v) := by
  rw [← hw] at e
  obtain ⟨e1, e2⟩ := wipe_some e
  refine hk j v ?_
  rw [wipe_out fun z => e2 (hv j z)]
  exact e1
theorem ku_clause {e tg iter : Expr} {ifs : List Expr} {d : Nat} {acc : Value} {next : Sem Unit} {vs vs' : List Nat} {wi : TI} {g : TG} {tt : TT} {t : TU}
    (hx : ∀ v s, X.xe v s → False) (hc : X.calm = true) (hk : IsComp e) (he : (clausesOf e)[d]? = some ⟨tg, iter, ifs, 0⟩) (ht : ∀ it, turnIs e d it acc X.env tg iter ifs next) (hs : ∀ x, foldedSetIterable iter X.env x = pure x)
    (hi : PI X tg iter wi) (hg : PG X tg g) (hts : PTs X ifs tt) (hn : KU X next vs' t) (hv : ∀ i ∈ vs', i ∈ vs) : KU X (subC e d acc X.env iter) vs (tCl wi g tt t vs) := by
  refine ⟨fun pins s σ H N I h => ?_⟩
  have thnX : ∀ {α : Type} {m : Sem α} {Q Q' : α → Shared → Prop} {E : Value → Shared → Prop} {s : Shared}, wpAny (model X.prog X.w) X.A m Q X.xe s → (∀ a s, Q a s → Q' a s) → wpAny (model X.prog X.w) X.A m Q' E s := fun h hQ => wpAny_mono h hQ fun v s z => (hx v s z).elim
  unfold subC
  refine wpAny_bind (thn (hi.run pins s σ H _ I h) fun xv s10 hx1 => wpAny_bind (wpAny_standAt (wpAny_bind (wpAny_of_eq (hs xv) (wpAny_bind (wpAny_holding (thn hx1 fun itv s11 h11 => ?_)))))))
  obtain ⟨it1, fp, tn, J, H1, e1, I1, T, st1, f1, W, ⟨m1, w1⟩, turn⟩ := h11
  subst e1
  refine wpAny_bind (wpAny_runOwn ?_)
  rw [Around.mark_none]
  have stat : ∀ {H' : Hp}, (∀ b ∈ fp, H' b = none) → ∀ b ∈ fp, FpOk X pins H' b := fun hn b hb => ⟨hn b hb, (f1 b hb).2⟩
  have loop : codeAny (model X.prog X.w) X.A (.compLoop e d (.ref it1) acc X.env)
      (fun r s' => match r with
        | .ok _ => ∃ σ' H', L2.Inv X pins σ' H' s' ∧ σ'.length = σ.length ∧ (∀ (j : Nat) (v : V), (wipe σ vs)[j]? = some (some v) → σ'[j]? = some (some v)) ∧ N H'
        | .error _ => False) s11 := by
    refine loop_turns hk (ht _) (fun k s' => ∃ j H', L2.Inv X pins (wipe σ vs) H' s' ∧ tn j s'.heap ∧ (∀ b ∈ fp, H' b = none) ∧ W j k H') ?_ m1 ⟨0, H1, I1.weak (wipe_length _ _) (fun j v e => (wipe_some e).1), st1, fun b hb => (f1 b hb).1, w1⟩
    rintro k s2 ⟨j, H2, I2, st2, n2, w2⟩
    rcases turn j k H2 w2 with ⟨stop, nx⟩ | ⟨go, Nx, hNx, step⟩
    · refine thnF (T.done X rfl rfl rfl hc j _ s2 (wipe σ vs) H2 (fun _ _ => False) I2 (stat n2) st2 stop) fun r s3 ⟨hr, I3⟩ => ?_
      subst hr
      exact ⟨_, _, I3, wipe_length _ _, fun _ _ e => e, nx⟩
    · refine thnF (T.item X rfl rfl rfl hc j _ s2 (wipe σ vs) H2 (fun _ _ => False) I2 (stat n2) st2 go) fun r s3 ⟨u1, hr, h3⟩ => ?_
      subst hr
      refine thnF h3 fun _ s4 ⟨x1, H4, I4, r4, y4, st4, n4⟩ => ?_
      have I4' := I4.pinned (stat n4) (T.obj _ _ st4)
      refine thnX (hg.run _ s4 (wipe σ vs) H4 x1 u1 _ I4' r4 (step x1 H4 y4)) fun _ s5 ⟨σ5, H5, I5, hw5, q5⟩ => ?_
      refine thnX (hts.run _ s5 σ5 H5 _ I5 q5) fun b s6 ⟨H6, I6, q6⟩ => ?_
      have fin : ∀ {s' : Shared} {σ' : L2.St} {H' : Hp}, L2.Inv X (pins ++ pinsAt fp s4.heap) σ' H' s' → σ'.length = σ5.length → (∀ (j : Nat) (v : V), (wipe σ5 vs')[j]? = some (some v) → σ'[j]? = some (some v)) → Nx H' →
          ∃ m, m < k ∧ ∃ j H', L2.Inv X pins (wipe σ vs) H' s' ∧ tn j s'.heap ∧ (∀ b ∈ fp, H' b = none) ∧ W j m H' := fun {s' σ' H'} I' hl hk nx => by
        obtain ⟨m', hm, w'⟩ := hNx H' nx
        have pin' : ∀ b ∈ fp, ∀ o, s4.heap.get? b = some o → s'.heap.get? b = some o ∧ H' b = none := fun b hb o e =>
          let z := I'.pin (b, o) (List.mem_append_right _ (List.mem_append_right _ (mem_pinsAt hb e)))
          ⟨z.1, z.2.1⟩
        have hl5 : (wipe σ vs).length = σ'.length := by
          have a : (wipe σ5 vs).length = (wipe σ vs).length := congrArg List.length (hw5.trans (by first | rfl | exact wipe_twice σ vs))
          rw [wipe_length] at a
          rw [hl, a]
        refine ⟨m', hm, j + 1, H', I'.unpinned.weak hl5 (keep_back (σ := σ5) hw5 hv hk), T.keep _ _ _ st4 fun b hb o e => (pin' b hb o e).1, fun b hb => ?_, w'⟩
        obtain ⟨o, e, _⟩ := T.obj _ _ st4 b hb
        exact (pin' b hb o e).2
      cases b with
      | false =>
        simp only [Bool.false_eq_true, if_false] at q6 ⊢
        exact fin I6 rfl (fun j v e => (wipe_some e).1) q6
      | true =>
        simp only [if_true] at q6 ⊢
        exact thnX (hn.run _ s6 σ5 H6 _ I6 q6) fun _ s7 ⟨σ7, H7, I7, l7, k7, nx⟩ => fin I7 l7 k7 nx
  refine codeAny_mono (start_turns hk he loop (T.self X.A 0 _ _ _ st1 loop)) fun r s' hr => ?_
  cases r with
  | ok f => exact wpAny_pure hr
  | error x => exact hr.elim
theorem ku_app {x : Expr} {te : TE} {D : Addr} (h : PE X x te) : KU X (do let _ ← call (.builtin "list.append") [.ref D, ← eval x X.env]) [] (fun σ H N => te σ H fun y H1 => ∃ ac, H1 D = some (.lst ac) ∧ ac.length < sizeLine ∧ N (upd H1 D (.lst (ac ++ [y])))) :=
  ⟨fun pins s σ H N I q => wpAny_bind (thn (h.run pins s σ H _ I q) fun z s1 ⟨yv, H1, I1, r1, ac, a1, a2, nx⟩ => wpAny_bind (app_ok I1 a1 a2 r1 fun s2 I2 => wpAny_pure ⟨σ, _, I2, rfl, fun _ _ e => e, nx⟩))⟩
end
end FH

namespace FH
open PySem PySem.Spec PyProof.Rows L2

/-! ### the first clause, and the block -/
/-- what a comprehension starts with: a new object o, tracked as u -/
structure AccOk (X : Cx) (new : Sem Value) (u : Addr → HO) : Prop where
  run : ∀ {A : Around} {E : Value → Shared → Prop} {s : Shared} {Q : Value → Shared → Prop} {pins : List (Addr × Obj)} {σ : L2.St} {H : Hp}, L2.Inv X pins σ H s →
    (∀ o : Obj, L2.Inv X pins σ (upd H s.heap.objs.size (u s.heap.objs.size)) { s with heap := s.heap.push o } → Q (.ref s.heap.objs.size) { s with heap := s.heap.push o }) → wpAny (model X.prog X.w) A new Q E s
theorem acc_list {X : Cx} : AccOk X (newList []) (fun _ => .lst []) := ⟨fun {A E s Q pins σ H} I h => by
  refine wpAny_newObj_type (h _ ?_) (by show 0 ≤ sizeLine; decide)
  exact I.laid (t' := s.toks) (fun b o e => Heap.get?_push_of_some _ e) (Nat.le_refl _) ⟨Nat.zero_le _, [], 0, .nil, Heap.get?_push_size _ rfl⟩⟩
theorem acc_dict {X : Cx} : AccOk X newDict (fun _ => .dK []) := ⟨fun {A E s Q pins σ H} I h => by
  refine wpAny_newObj_type (h _ ?_)
  exact I.laid (t' := s.toks) (fun b o e => Heap.get?_push_of_some _ e) (Nat.le_refl _) (dk_empty s.heap I.big)⟩
def tTop (u : Addr → HO) (wi : TI) (g : TG) (tt : TT) (t : Addr → TU) (vs : List Nat) : TE := fun σ H Q => wi σ H fun J H1 => ∀ D, H1 D = none → ∃ W : Nat → Nat → Hp → Prop, (∃ m, W 0 m (upd H1 D (u D))) ∧ ∀ i m H, W i m H →
  (J.stop i H ∧ Q (.ref D) H) ∨ (J.go i H ∧ ∃ Nx : Hp → Prop, (∀ H', Nx H' → ∃ m', m' < m ∧ W (i + 1) m' H') ∧ ∀ x H', J.yld i H x H' → g x (wipe σ vs) H' fun σ2 H2 => wipe σ2 vs = wipe σ vs ∧ tt σ2 H2 fun b H3 =>
    if b = true then t D σ2 H3 Nx else Nx H3)
section
variable {X : Cx}
theorem cN_core {pins : List (Addr × Obj)} {s : Shared} {σ : L2.St} {H : Hp} {Q : VK} {e tg iter : Expr} {ifs : List Expr} {gs : List Comprehension} {scope : Scope} {own : List (Str × Nat)} {pos' : Pos} {new : Sem Value} {u : Addr → HO} {next : Addr → Env → Sem Unit} {vs' : List Nat} {wi : TI} {g : TG} {tt : TT} {t : Addr → TU} {use : Option (Value → Sem Unit)} {Qf : Value → Shared → Prop}
    (hc : X.calm = true) (hN : X.N.Nodup) (I : L2.Inv X pins σ H s) (hnew : AccOk X new u) (hk : IsComp e) (hcl : clausesOf e = ⟨tg, iter, ifs, 0⟩ :: gs) (hturn : ∀ it D env, turnIs e 0 it (.ref D) env tg iter ifs (next D env))
    (hi : PI X tg iter wi) (ok : BlkOk X.N X.env.scope scope own)
    (hg : ∀ (s : Shared) (H : Hp) (C : Addr) (cl : List (Str × Addr)) (fp : List Addr), PG (X.blk s H scope (compEnvC scope cl C X.env) fp) tg g) (ht : ∀ (s : Shared) (H : Hp) (C : Addr) (cl : List (Str × Addr)) (fp : List Addr), PTs (X.blk s H scope (compEnvC scope cl C X.env) fp) ifs tt)
    (hn : ∀ (s : Shared) (H : Hp) (C : Addr) (cl : List (Str × Addr)) (fp : List Addr) (D : Addr), KU (X.blk s H scope (compEnvC scope cl C X.env) fp) (next D (compEnvC scope cl C X.env)) vs' (t D)) (hv : ∀ i ∈ vs', i ∈ own.map (·.2)) (hs : ∀ x, foldedSetIterable iter X.env x = pure x)
    (h : tTop u wi g tt t (own.map (·.2)) σ H Q)
    (hRR : ∀ D C s' m H', L2.Inv X pins σ H' s' → Q (.ref D) H' → s'.heap.Ns C m → FpOk X pins H' C → compPost (model X.prog X.w) X.A X.xe use Qf (.ref D) C (.ok .next) s') :
    wpAny (model X.prog X.w) X.A (comprehension e scope X.env pos' new false (eval iter X.env) use) Qf X.xe s := by
  have hfree : ∀ y ∈ scope.names, y.2 = .free → ∃ c, X.env.cells.lookup y.1 = some c := fun y hy e => by
    rcases ok.free y hy e with k | k
    · exact I.ok.has _ (.inl k)
    · exact I.ok.has _ (.inr k)
  refine wpAny_comprehension_free (use := use) hcl hs (closure_ok hfree) ok.kind (fun y hy e => by rw [ok.uniq y hy, e])
    (thn (hi.run pins s σ H _ I h) fun xv s1 hx => thn hx fun itv s2 h2 => ?_)
  obtain ⟨it, fp, tn, J, H2, e1, I2, T, st2, f2, q⟩ := h2
  subst e1
  refine hnew.run I2 fun o I3 => newEnv_comp ?_
  generalize hD : s2.heap.objs.size = D at I3 ⊢
  have hDn : H2 D = none := I2.hok.fresh (Nat.le_of_eq hD)
  obtain ⟨W, ⟨m0, w0⟩, turn⟩ := q D hDn
  generalize hs3 : ({ s2 with heap := s2.heap.push o } : Shared) = s3 at I3 ⊢
  have h3 : s3.heap = s2.heap.push o := by rw [← hs3]
  have sz : ∀ b ∈ fp, b < s2.heap.objs.size := fun b hb => by
    obtain ⟨o, e, _⟩ := T.obj _ _ st2 b hb
    exact Heap.lt_size e
  have f3 : ∀ b ∈ fp, FpOk X pins (upd H2 D (u D)) b ∧ b < s3.heap.objs.size := fun b hb => by
    have hlt := sz b hb
    refine ⟨⟨?_, (f2 b hb).2⟩, by rw [h3, Heap.size_push]; exact Nat.lt_succ_of_lt hlt⟩
    rw [upd_ne (by rw [← hD]; exact Nat.ne_of_lt hlt)]
    exact (f2 b hb).1
  have st3 : tn 0 s3.heap := T.keep _ _ _ st2 fun b _ o e => by rw [h3]; exact Heap.get?_push_of_some _ e
  have I4 := block_start I3 ok hN f3
  have pg := hg s3 (upd H2 D (u D)) s3.heap.objs.size (cellsFrom (s3.heap.objs.size + 1) scope.names (cloFrom X.env.cells scope.names [])) fp
  have pt := ht s3 (upd H2 D (u D)) s3.heap.objs.size (cellsFrom (s3.heap.objs.size + 1) scope.names (cloFrom X.env.cells scope.names [])) fp
  have pn := hn s3 (upd H2 D (u D)) s3.heap.objs.size (cellsFrom (s3.heap.objs.size + 1) scope.names (cloFrom X.env.cells scope.names [])) fp D
  show codeAny _ _ (.compStart e 0 (.ref it) (.ref D) (compEnvC scope (cellsFrom (s3.heap.objs.size + 1) scope.names (cloFrom X.env.cells scope.names [])) s3.heap.objs.size X.env)) (compPost (model X.prog X.w) X.A X.xe use Qf (.ref D) s3.heap.objs.size) { s3 with heap := pushCells (s3.heap.push { cls := .type "dict", data := .dict #[] }) scope.names }
  have nfp : ∀ b ∈ fp, (upd H2 D (u D)) b = none := fun b hb => (f3 b hb).1.1
  have hturn := fun it => hturn it D (compEnvC scope (cellsFrom (s3.heap.objs.size + 1) scope.names (cloFrom X.env.cells scope.names [])) s3.heap.objs.size X.env)
  generalize hce : compEnvC scope (cellsFrom (s3.heap.objs.size + 1) scope.names (cloFrom X.env.cells scope.names [])) s3.heap.objs.size X.env = ce at I4 pg pt pn hturn ⊢
  have cL : ce.locals = s3.heap.objs.size := by subst hce; rfl
  generalize hH3 : upd H2 D (u D) = H3 at I3 I4 pg pt pn w0 nfp f3
  generalize hs4 : ({ s3 with heap := pushCells (s3.heap.push { cls := .type "dict", data := .dict #[] }) scope.names } : Shared) = s4 at I4 ⊢
  have st4 : tn 0 s4.heap := T.keep _ _ _ st3 fun b _ o e => by rw [← hs4]; exact pushCells_keeps _ _ _ _ (Heap.get?_push_of_some _ e)
  have stat : ∀ {σ' : L2.St} {H' : Hp} {s' : Shared}, L2.Inv (X.blk s3 H3 scope ce fp) [] σ' H' s' → (∀ b ∈ fp, H' b = none) → ∀ b ∈ fp, FpOk (X.blk s3 H3 scope ce fp) [] H' b := fun {σ' H' s'} I' hn b hb =>
    ⟨hn b hb, (I'.ok.exf b hb).1, I'.ok.exfs b hb, .inl hb, fun x c e => (I'.ok.exf b hb).2 x c e, fun p hp => absurd (show p ∈ ([] : List (Addr × Obj)) ++ [] from hp) (by simp)⟩
  have loop : codeAny (model X.prog X.w) X.A (.compLoop e 0 (.ref it) (.ref D) ce) (compPost (model X.prog X.w) X.A X.xe use Qf (.ref D) s3.heap.objs.size) s4 := by
    refine loop_turns hk (hturn _) (fun n s' => ∃ i H', L2.Inv (X.blk s3 H3 scope ce fp) [] (wipe σ (own.map (·.2))) H' s' ∧ tn i s'.heap ∧ (∀ b ∈ fp, H' b = none) ∧ W i n H') ?_ m0 ⟨0, H3, I4, st4, nfp, w0⟩
    rintro n s5 ⟨i, H5, I5, st5, n5, w5⟩
    rcases turn i n H5 w5 with ⟨stop, qq⟩ | ⟨go, Nx, hNx, step⟩
    · have td := T.done (X.blk s3 H3 scope ce fp) rfl rfl rfl hc i [] s5 _ H5 (fun _ _ => False) I5 (stat I5 n5) st5 stop
      refine thnF td fun r s6 ⟨hr, I6⟩ => ?_
      subst hr
      have I7 : L2.Inv X pins σ H5 s6 := I3.call' (ch := fp) I6.os I6.base I6.hok I6.bare fun b hb => ⟨(f3 b hb).1.2.2.2.1, (f3 b hb).1.2.1, (f3 b hb).1.2.2.2.2.1, (f3 b hb).1.2.2.2.2.2⟩
      have nC : H5 s3.heap.objs.size = none := by
        have z : H5 ce.locals = none := I6.free
        rw [cL] at z
        exact z
      obtain ⟨m, hn, _⟩ := I6.loc
      have hn : s6.heap.Ns ce.locals m := hn
      rw [cL] at hn
      exact hRR D s3.heap.objs.size s6 m H5 I7 qq hn (I3.fpOk (Nat.le_refl _) nC)
    · have ti := T.item (X.blk s3 H3 scope ce fp) rfl rfl rfl hc i [] s5 _ H5 (fun _ _ => False) I5 (stat I5 n5) st5 go
      refine thnF ti fun r s6 ⟨u, hr, h6⟩ => ?_
      subst hr
      refine thnF h6 fun _ s7 ⟨x, H7, I7, r7, y7, st7, n7⟩ => ?_
      have I7' := I7.pinned (stat I7 n7) (T.obj _ _ st7)
      refine thnF (pg.run _ s7 _ H7 x u _ I7' r7 (step x H7 y7)) fun _ s8 ⟨σ8, H8, I8, hw8, q8⟩ => ?_
      refine thnF (pt.run _ s8 σ8 H8 _ I8 q8) fun b s9 ⟨H9, I9, q9⟩ => ?_
      have fin : ∀ {σ' : L2.St} {s' : Shared} {H' : Hp}, L2.Inv (X.blk s3 H3 scope ce fp) ([] ++ pinsAt fp s7.heap) σ' H' s' → σ'.length = σ8.length → (∀ (j : Nat) (v : V), (wipe σ8 vs')[j]? = some (some v) → σ'[j]? = some (some v)) → Nx H' →
          ∃ m, m < n ∧ ∃ i H', L2.Inv (X.blk s3 H3 scope ce fp) [] (wipe σ (own.map (·.2))) H' s' ∧ tn i s'.heap ∧ (∀ b ∈ fp, H' b = none) ∧ W i m H' := fun {σ' s' H'} I' hl hk nx => by
        obtain ⟨m', hm, w'⟩ := hNx H' nx
        have pin' : ∀ b ∈ fp, ∀ o, s7.heap.get? b = some o → s'.heap.get? b = some o ∧ H' b = none := fun b hb o e =>
          let z := I'.pin (b, o) (List.mem_append_right _ (List.mem_append_right _ (mem_pinsAt hb e)))
          ⟨z.1, z.2.1⟩
        have hl8 : (wipe σ (own.map (·.2))).length = σ'.length := by rw [hl, ← hw8, wipe_length]
        refine ⟨m', hm, i + 1, H', (I'.unpinned (pins := [])).weak hl8 (keep_back (σ := σ8) hw8 hv hk), T.keep _ _ _ st7 fun b hb o e => (pin' b hb o e).1, fun b hb => ?_, w'⟩
        obtain ⟨o, e, _⟩ := T.obj _ _ st7 b hb
        exact (pin' b hb o e).2
      cases b with
      | false =>
        simp only [Bool.false_eq_true, if_false] at q9 ⊢
        exact fin I9 rfl (fun j v e => (wipe_some e).1) q9
      | true =>
        simp only [if_true] at q9 ⊢
        exact thnF (pn.run _ s9 σ8 H9 _ I9 q9) fun _ s10 ⟨σ10, H10, I10, l10, k10, nx⟩ => fin I10 l10 k10 nx
  exact start_turns hk (d := 0) (by rw [hcl]; rfl) loop (T.self X.A 0 _ _ _ st4 loop)
end
end FH

namespace FH
open PySem PySem.Spec PyProof.Rows L2

/-! ### the machine's side -/
abbrev MU := Nat → DL → DH → R Unit
def rU (T : Tb) (m : MU) (a : Addr) : TU := fun σ H N => ∃ l ρ σd D, ρ[l]? = some a ∧ SR T ρ H σd σ ∧ HR T ρ D H ∧ pU T ρ H (m l σd D) (fun _ _ H' => N H')
def loopC (g : MG) (t : MT) (mu : DL → DH → R Unit) (σ : DL) (src : Src) : Nat → Nat → DH → R Unit
  | 0, _, _ => .bad
  | f + 1, i, D => (match src.item D i with
    | none => .bad
    | some none => .ok () D
    | some (some d) => (match g d σ D with
      | .bad => .bad
      | .ok σ1 D1 => (match t σ1 D1 with
        | .bad => .bad
        | .ok false D2 => loopC g t mu σ src f (Nat.succ i) D2
        | .ok true D2 => (match mu σ1 D2 with
          | .bad => .bad
          | .ok _ D3 => loopC g t mu σ src f (Nat.succ i) D3))))
def mCl (mi : MI) (g : MG) (t : MT) (mu : MU) (vs : List Nat) : MU := fun l σ D => match mi σ D with
  | .ok src D1 => loopC g t (mu l) (wipeD σ vs) src (Nat.succ (src.len D1)) 0 D1
  | .bad => .bad
def mTop (o : DO) (mi : MI) (g : MG) (t : MT) (mu : MU) (vs : List Nat) : ME := fun σ D => match mi σ D with
  | .ok src D1 => cond (Nat.blt D1.n bigN) (match loopC g t (mu D1.n) (wipeD σ vs) src (Nat.succ (src.len D1)) 0 (D1.add o) with
    | .bad => .bad
    | .ok _ D2 => .ok (.loc D1.n) D2) .bad
  | .bad => .bad
def uApp (m : ME) : MU := fun l σ D => match m σ D with
  | .bad => .bad
  | .ok y D1 => (match appD D1 l y with
    | none => .bad
    | some D2 => .ok () D2)
def uPut (mk mv : ME) : MU := fun l σ D => match mk σ D with
  | .bad => .bad
  | .ok y D1 => (match mv σ D1 with
    | .bad => .bad
    | .ok z D2 => (match dPut (.loc l) y z D2 with
      | none => .bad
      | some D3 => .ok () D3))
section
variable {T : Tb} {X : Cx} {is vs : List Nat} {mi : MI} {g : MG} {t : MT} {mu : MU} {m mk mv : ME}
theorem loopC_read {J : It} {src : Src} {ρ0 : List Addr} {H0 : Hp} (it : ItD T ρ0 H0 src J) {l : Nat} {a : Addr} (hl : ρ0[l]? = some a) (hs : subL is vs = true) {σ : L2.St} {σd : DL} {D0 : DH} {f : Nat} {N : List Addr → DH → Hp → Prop}
    (sr : SR T ρ0 H0 σd σ) (h0 : HR T ρ0 D0 H0) (p : pU T ρ0 H0 (loopC g t (mu l) (wipeD σd vs) src f 0 D0) N) :
    ∃ W : Nat → Nat → Hp → Prop, (∃ m, W 0 m H0) ∧ ∀ i m H, W i m H → (J.stop i H ∧ ∃ ρ D, Up ρ0 H0 ρ H ∧ HR T ρ D H ∧ N ρ D H) ∨
      (J.go i H ∧ ∃ Nx : Hp → Prop, (∀ H', Nx H' → ∃ m', m' < m ∧ W (i + 1) m' H') ∧ ∀ x H', J.yld i H x H' → rG T is g x (wipe σ vs) H' fun σ1 H2 => wipe σ1 vs = wipe σ vs ∧ rT T t σ1 H2 fun b H3 => if b = true then rU T mu a σ1 H3 Nx else Nx H3) := by
  refine ⟨fun i n H => ∃ ρ D, Up ρ0 H0 ρ H ∧ HR T ρ D H ∧ pU T ρ H (loopC g t (mu l) (wipeD σd vs) src n i D) N, ⟨f, _, _, Up.refl _ _, h0, p⟩, ?_⟩
  rintro i n H ⟨ρ, D, u, h, p⟩
  cases n with
  | zero => exact p.elim
  | succ n =>
    have p : pU T ρ H (match src.item D i with
      | none => .bad
      | some none => .ok () D
      | some (some d) => (match g d (wipeD σd vs) D with
        | .bad => .bad
        | .ok σ1 D1 => (match t σ1 D1 with
          | .bad => .bad
          | .ok false D2 => loopC g t (mu l) (wipeD σd vs) src n (Nat.succ i) D2
          | .ok true D2 => (match mu l σ1 D2 with
            | .bad => .bad
            | .ok _ D3 => loopC g t (mu l) (wipeD σd vs) src n (Nat.succ i) D3)))) N := p
    have z := it ρ D H u h i
    cases e2 : src.item D i with
    | none => rw [e2] at p; exact p.elim
    | some o =>
      rw [e2] at p z
      cases o with
      | none => exact .inl ⟨z, ρ, D, u, h, p ρ H (Up.refl _ _) h⟩
      | some d =>
        obtain ⟨go, yl⟩ := z
        refine .inr ⟨go, fun H' => ∃ ρ D, Up ρ0 H0 ρ H' ∧ HR T ρ D H' ∧ pU T ρ H' (loopC g t (mu l) (wipeD σd vs) src n (i + 1) D) N, fun H' w => ⟨n, Nat.lt_succ_self n, w⟩, fun x H' y => ?_⟩
        obtain ⟨u3, h3, r3⟩ := yl x H' y
        refine ⟨ρ, wipeD σd vs, D, d, (sr.up (u.trans u3)).wipe vs, h3, r3, ?_⟩
        dsimp only at p
        cases e3 : g d (wipeD σd vs) D with
        | bad => rw [e3] at p; exact p.elim
        | ok σ1 D2 =>
          rw [e3] at p
          intro ρ4 H4 σ2 u4 h4 s4 ag
          refine ⟨wipe_agree ag (subL_ok hs), ρ4, σ1, D2, s4, h4, ?_⟩
          dsimp only at p
          cases e4 : t σ1 D2 with
          | bad => rw [e4] at p; exact p.elim
          | ok b D3 =>
            rw [e4] at p
            cases b with
            | false => exact fun ρ5 H5 u5 h5 => iteF ⟨ρ5, D3, u.trans (u3.trans (u4.trans u5)), h5, pU.up (u3.trans (u4.trans u5)) p⟩
            | true =>
              intro ρ5 H5 u5 h5
              have ul := u.trans (u3.trans (u4.trans u5))
              refine iteT ⟨l, ρ5, σ1, D3, ul.at hl, s4.up u5, h5, ?_⟩
              dsimp only at p
              cases e5 : mu l σ1 D3 with
              | bad => rw [e5] at p; exact p.elim
              | ok _ D4 =>
                rw [e5] at p
                exact fun ρ6 H6 u6 h6 => ⟨ρ6, D4, ul.trans u6, h6, pU.up (u3.trans (u4.trans (u5.trans u6))) p⟩
theorem cl_read {a : Addr} {σ : L2.St} {H : Hp} {N : Hp → Prop} (hs : subL is vs = true) (q : rU T (mCl mi g t mu vs) a σ H N) : tCl (rI T mi) (rG T is g) (rT T t) (rU T mu a) vs σ H N := by
  obtain ⟨l, ρ0, σd, D0, hl, sr, hr, p⟩ := q
  refine ⟨ρ0, σd, D0, sr, hr, ?_⟩
  unfold mCl at p
  cases e1 : mi σd D0 with
  | bad => rw [e1] at p; exact p.elim
  | ok src D1 =>
    rw [e1] at p
    intro ρ1 H1 J u1 h1 it
    obtain ⟨W, w0, w⟩ := loopC_read (mu := mu) it (u1.at hl) hs (sr.up u1) h1 (pU.up u1 p)
    refine ⟨W, w0, fun j k H q => ?_⟩
    rcases w j k H q with ⟨st, ρ, D, _, _, n⟩ | z
    · exact .inl ⟨st, n⟩
    · exact .inr z
theorem top_read {o : DO} {u : Addr → HO} (ho : ∀ (ρ : List Addr) (H : Hp) (a : Addr), H a = some (u a) → JR T ρ H a o) {σ : L2.St} {H : Hp} {Q : VK} (hs : subL is vs = true) (q : rE T (mTop o mi g t mu vs) σ H Q) : tTop u (rI T mi) (rG T is g) (rT T t) (rU T mu) vs σ H Q := by
  obtain ⟨ρ0, σd, D0, sr, hr, p⟩ := q
  refine ⟨ρ0, σd, D0, sr, hr, ?_⟩
  unfold mTop at p
  cases e1 : mi σd D0 with
  | bad => rw [e1] at p; exact p.elim
  | ok src D1 =>
    rw [e1] at p
    intro ρ1 H1 J u1 h1 it Dl hD
    obtain ⟨c0, p⟩ := cond_ok p
    have p := pE.up u1 p
    have sr := sr.up u1
    have hn : D1.n < bigN := blt_lt c0
    have h2 : HR T (ρ1 ++ [Dl]) (D1.add o) (upd H1 Dl (u Dl)) := h1.add hn hD (ho _ _ _ upd_same)
    have u2 : Up ρ1 H1 (ρ1 ++ [Dl]) (upd H1 Dl (u Dl)) := up_add hD
    have hl : (ρ1 ++ [Dl])[D1.n]? = some Dl := at_new h1.len
    have p2 : pU T (ρ1 ++ [Dl]) (upd H1 Dl (u Dl)) (loopC g t (mu D1.n) (wipeD σd vs) src (Nat.succ (src.len D1)) 0 (D1.add o)) (fun ρ D H => pE T ρ H (.ok (.loc D1.n) D) Q) := by
      try dsimp only at p
      cases e6 : loopC g t (mu D1.n) (wipeD σd vs) src (Nat.succ (src.len D1)) 0 (D1.add o) with
      | bad => rw [e6] at p; exact p.elim
      | ok _ D5 =>
        rw [e6] at p
        exact fun ρ' H' u' h' => pE.up (u2.trans u') p
    have it2 : ItD T (ρ1 ++ [Dl]) (upd H1 Dl (u Dl)) src J := fun ρ D H uu h i => it ρ D H (u2.trans uu) h i
    obtain ⟨W, w0, w⟩ := loopC_read (mu := mu) it2 hl hs (sr.up u2) h2 p2
    refine ⟨W, w0, fun j k H q => ?_⟩
    rcases w j k H q with ⟨st, ρ, D, uu, h, n⟩ | z
    · exact .inl ⟨st, pE_ok h (d := .loc D1.n) ⟨Dl, uu.at hl, rfl⟩ n⟩
    · exact .inr z
theorem KUw {next : Sem Unit} {t t' : TU} (h : KU X next vs t') (w : ∀ σ H N, t σ H N → t' σ H N) : KU X next vs t := ⟨fun pins s σ H N I q => h.run pins s σ H N I (w σ H N q)⟩
theorem un_app {x : Expr} {D : Addr} (h : PE X x (rE T m)) : KU X (do let _ ← call (.builtin "list.append") [.ref D, ← eval x X.env]) [] (rU T (uApp m) D) :=
  KUw (ku_app h) fun σ H N q => by
    obtain ⟨l, ρ, σd, D0, hl, sr, hr, p⟩ := q
    refine ⟨ρ, σd, D0, sr, hr, ?_⟩
    unfold uApp at p
    cases e1 : m σd D0 with
    | bad => rw [e1] at p; exact p.elim
    | ok y D1 =>
      rw [e1] at p
      intro ρ1 H1 v u1 h1 r1
      dsimp only at p
      cases e2 : appD D1 l y with
      | none => rw [e2] at p; exact p.elim
      | some D2 =>
        rw [e2] at p
        obtain ⟨acc, a1, a2, u2, h2⟩ := appD_ok h1 (u1.at hl) r1 e2
        exact ⟨acc, a1, a2, p _ _ (u1.trans u2) h2⟩
/-- one pair more -/
def putC (kx vx : Expr) (D : Addr) (env : Env) : Sem Unit := do
  let kv ← eval kx env
  let vv ← holding [kv] (eval vx env)
  standAt { kx.pos with endLine := vx.pos.endLine, endCol := vx.pos.endCol }
  holding [kv, vv] (dictSet D kv vv)
theorem ku_put {kx vx : Expr} {tk tv : TE} {D : Addr} (hk : PE X kx tk) (hx : PE X vx tv) : KU X (putC kx vx D X.env) [] (fun σ H N => tk σ H fun y H1 => tv σ H1 fun z H2 => ∃ kvs k, y = kV k ∧ H2 D = some (.dK kvs) ∧ kvs.length < sizeLine ∧ N (upd H2 D (.dK (putK kvs k z)))) := by
  refine ⟨fun pins s σ H N I q => ?_⟩
  unfold putC
  refine wpAny_bind (thn (hk.run pins s σ H _ I q) fun kv s1 ⟨y, H1, I1, r1, q1⟩ => ?_)
  refine wpAny_bind (wpAny_holding (thn (hx.run pins s1 σ H1 _ I1 q1) fun vv s2 ⟨z, H2, I2, r2, kvs, k, e, a1, a2, nx⟩ => ?_))
  subst e
  exact wpAny_bind (wpAny_standAt (wpAny_holding (d_dictSet I2 a1 a2 r1 r2 fun s3 I3 => ⟨σ, _, I3, rfl, fun _ _ e => e, nx⟩)))
theorem un_put {kx vx : Expr} {D : Addr} (hk : PE X kx (rE T mk)) (hx : PE X vx (rE T mv)) : KU X (putC kx vx D X.env) [] (rU T (uPut mk mv) D) :=
  KUw (ku_put hk hx) fun σ H N q => by
    obtain ⟨l, ρ, σd, D0, hl, sr, hr, p⟩ := q
    refine ⟨ρ, σd, D0, sr, hr, ?_⟩
    unfold uPut at p
    cases e1 : mk σd D0 with
    | bad => rw [e1] at p; exact p.elim
    | ok y D1 =>
      rw [e1] at p
      intro ρ1 H1 v u1 h1 r1
      refine ⟨ρ1, σd, D1, sr.up u1, h1, ?_⟩
      dsimp only at p
      cases e2 : mv σd D1 with
      | bad => rw [e2] at p; exact p.elim
      | ok z D2 =>
        rw [e2] at p
        intro ρ2 H2 v2 u2 h2 r2
        dsimp only at p
        cases e3 : dPut (.loc l) y z D2 with
        | none => rw [e3] at p; exact p.elim
        | some D3 =>
          rw [e3] at p
          obtain ⟨kvs, kk, rfl, a1, a2, u3, h3⟩ := dPutK_ok h2 ((u1.trans u2).at hl) (r1.up u2) r2 e3
          exact ⟨kvs, kk, rfl, a1, a2, p _ _ (u1.trans (u2.trans u3)) h3⟩
/-- a clause behind another -/
theorem un_clause {k : Nat} {e tg iter : Expr} {ifs : List Expr} {d : Nat} {D : Addr} {next : Sem Unit} {vs' : List Nat}
    (hx : ∀ v s, X.xe v s → False) (hc : X.calm = true) (hk : IsComp e) (he : (clausesOf e)[d]? = some ⟨tg, iter, ifs, 0⟩) (ht : ∀ it, turnIs e d it (.ref D) X.env tg iter ifs next)
    (hi : PI X tg iter (rI T mi)) (hg : PG X tg (rG T is g)) (hts : PTs X ifs (rT T t)) (hn : KU X next vs' (rU T mu D)) (hs : subL is vs = true := by rfl) (hv : subL vs' vs = true := by rfl) (hf : ∀ x, foldedSetIterable iter X.env x = pure x := by intro _; rfl) :
    KU X (subC e d (.ref D) X.env iter) vs (rU T (mCl mi g t mu vs) D) :=
  KUw (ku_clause hx hc hk he ht hf hi hg hts hn (subL_ok hv)) fun σ H N q => cl_read hs q
end
end FH

namespace FH
open PySem PySem.Spec PyProof.Rows L2

/-! ### as a value, and as what a name is given -/
section
variable {X : Cx} {e tg iter : Expr} {ifs : List Expr} {gs : List Comprehension} {scope : Scope} {own : List (Str × Nat)} {pos pos' spos py : Pos} {new : Sem Value} {u : Addr → HO} {next : Addr → Env → Sem Unit} {vs' : List Nat} {wi : TI} {g : TG} {tt : TT} {t : Addr → TU} {y : Str} {i : Nat}
/-- what all of them ask -/
structure CN (X : Cx) (e tg iter : Expr) (ifs : List Expr) (gs : List Comprehension) (scope : Scope) (own : List (Str × Nat)) (new : Sem Value) (u : Addr → HO) (next : Addr → Env → Sem Unit) (vs' : List Nat) (wi : TI) (g : TG) (tt : TT) (t : Addr → TU) : Prop where
  hc : X.calm = true
  hN : X.N.Nodup
  hnew : AccOk X new u
  hk : IsComp e
  hcl : clausesOf e = ⟨tg, iter, ifs, 0⟩ :: gs
  hturn : ∀ it D env, turnIs e 0 it (.ref D) env tg iter ifs (next D env)
  hi : PI X tg iter wi
  ok : BlkOk X.N X.env.scope scope own
  hg : ∀ (s : Shared) (H : Hp) (C : Addr) (cl : List (Str × Addr)) (fp : List Addr), PG (X.blk s H scope (compEnvC scope cl C X.env) fp) tg g
  ht : ∀ (s : Shared) (H : Hp) (C : Addr) (cl : List (Str × Addr)) (fp : List Addr), PTs (X.blk s H scope (compEnvC scope cl C X.env) fp) ifs tt
  hn : ∀ (s : Shared) (H : Hp) (C : Addr) (cl : List (Str × Addr)) (fp : List Addr) (D : Addr), KU (X.blk s H scope (compEnvC scope cl C X.env) fp) (next D (compEnvC scope cl C X.env)) vs' (t D)
  hv : ∀ i ∈ vs', i ∈ own.map (·.2)
  hs : ∀ x, foldedSetIterable iter X.env x = pure x
theorem CN.pe (c : CN X e tg iter ifs gs scope own new u next vs' wi g tt t) (he : eval e X.env = comprehension e scope X.env pos' new false (eval iter X.env)) : PE X e (tTop u wi g tt t (own.map (·.2))) := by
  refine ⟨fun pins s σ H Q I h => ?_⟩
  rw [he]
  refine cN_core c.hc c.hN I c.hnew c.hk c.hcl c.hturn c.hi c.ok c.hg c.ht c.hn c.hv c.hs h fun D C s' m H' I' q hn f => ⟨m, hn, fun h'' sb => ?_⟩
  obtain ⟨f0, f1, f2, f3, f4, f5⟩ := f
  exact ⟨.ref D, H', I'.turned (t' := s'.toks) (fun b o hb e => (sb.2 b hb).trans e) f0 f1 f3 f4 f5, rfl, q⟩
theorem CN.ps (c : CN X e tg iter ifs gs scope own new u next vs' wi g tt t) (hy : X.N[i]? = some y) (hyl : X.env.scope.names.lookup y = some .local) (hsw : swapsWith e (some (.Name y py)) spos.line X.env = pure true)
    (he : ∀ use, evalThenUse e X.env use = (do let _ ← comprehension e scope X.env pos' new false (eval iter X.env) (some use); pure ())) :
    PS X (.Assign [.Name y py] e spos) (tAsg (tTop u wi g tt t (own.map (·.2))) (gName i)) := by
  refine ⟨fun pins s σ H D I h => ?_⟩
  rw [exec_Assign_Name_used _ _ _ _ hsw]
  refine wpAny_bind (wpAny_standAt (wpAny_bind ?_))
  rw [he]
  have h : tTop u wi g tt t (own.map (·.2)) σ H (fun x H1 => gName i x σ H1 D.nx) := h
  refine wpAny_bind (thn (cN_core (Qf := fun _ s' => SP X pins D .next s') c.hc c.hN I c.hnew c.hk c.hcl c.hturn c.hi c.ok c.hg c.ht c.hn c.hv c.hs h fun L C s' m H' I' q hn f => ?_) fun _ s' hq => wpAny_pure (wpAny_pure hq))
  show wpAny _ _ (assign (.Name y py) X.env (.ref L)) _ _ _
  refine wpAny_assign_Name (store_ok2 (v := V.ref L) I' c.hN hy (.inl hyl) rfl (fun s2 I2 ⟨a, sb, ha⟩ => ?_) (.inr hyl))
  obtain ⟨f0, f1, f2, f3, f4, f5⟩ := f
  have haC : C ≠ a := by
    rcases ha with z | z
    · rw [z]; exact f1
    · exact fun e => f4 y a z e.symm
  refine ⟨m, hn.sameBut sb haC, fun h3 sb3 => ?_⟩
  exact ⟨_, H', I2.turned (t' := s2.toks) (fun b o hb e => (sb3.2 b hb).trans e) f0 f1 f3 f4 f5, q⟩
theorem swd_true {kx vx : Expr} {gs : List Comprehension} {l : Nat} {env : Env} (hk : env.scope.kind = .function) (hy : env.scope.names.lookup y = some .local) (hl : (py.line == pos.line) = true)
    (ha : (scope.names.any fun (n, k) => n == y && (k == .local || k == .cell)) = false) : swapsWith (.DictComp kx vx gs scope pos) (some (.Name y py)) l env = pure true := by
  have ky : env.kindOf y = some .local := hy
  have hb : env.blockKind = .function := by unfold Env.blockKind; rw [hk]; rfl
  unfold swapsWith
  simp only [hb, ky, ha, Expr.pos, hl]
  rfl
end
section
variable {T : Tb} {k : Nat} {X : Cx} {elt kx vx tg iter : Expr} {ifs : List Expr} {gs : List Comprehension} {scope : Scope} {pos spos py : Pos} {next : Addr → Env → Sem Unit} {vs' is vs : List Nat} {mi : MI} {g : MG} {t : MT} {mu : MU} {y : Str}
theorem lst_new {T : Tb} (ρ : List Addr) (H : Hp) (a : Addr) (h : H a = some (.lst [])) : JR T ρ H a (.lst false []) := ⟨[], rfl, h⟩
theorem dK_new {T : Tb} (ρ : List Addr) (H : Hp) (a : Addr) (h : H a = some (.dK [])) : JR T ρ H a (.dK false []) := ⟨[], rfl, h⟩
theorem cn_l (c : Cn T k X) (own : List (Str × Nat)) (hi : PI X tg iter (rI T mi)) (ok : BlkOk X.N X.env.scope scope own)
    (hg : ∀ (s : Shared) (H : Hp) (C : Addr) (cl : List (Str × Addr)) (fp : List Addr), PG (X.blk s H scope (compEnvC scope cl C X.env) fp) tg (rG T is g))
    (ht : ∀ (s : Shared) (H : Hp) (C : Addr) (cl : List (Str × Addr)) (fp : List Addr), PTs (X.blk s H scope (compEnvC scope cl C X.env) fp) ifs (rT T t))
    (hn : ∀ (s : Shared) (H : Hp) (C : Addr) (cl : List (Str × Addr)) (fp : List Addr) (D : Addr), KU (X.blk s H scope (compEnvC scope cl C X.env) fp) (next D (compEnvC scope cl C X.env)) vs' (rU T mu D))
    (hturn : ∀ it D env, turnIs (.ListComp elt (⟨tg, iter, ifs, 0⟩ :: gs) scope pos) 0 it (.ref D) env tg iter ifs (next D env)) (hv' : ∀ i ∈ vs', i ∈ own.map (·.2)) (hf : ∀ x : Value, foldedSetIterable iter X.env x = pure x) :
    CN X (.ListComp elt (⟨tg, iter, ifs, 0⟩ :: gs) scope pos) tg iter ifs gs scope own (newList []) (fun _ => .lst []) next vs' (rI T mi) (rG T is g) (rT T t) (rU T mu) :=
  ⟨c.calm, c.nd, acc_list, .l _ _ _ _, rfl, hturn, hi, ok, hg, ht, hn, hv', hf⟩
theorem ex_lcN (c : Cn T k X) (own : List (Str × Nat)) (hi : PI X tg iter (rI T mi)) (ok : BlkOk X.N X.env.scope scope own)
    (hg : ∀ (s : Shared) (H : Hp) (C : Addr) (cl : List (Str × Addr)) (fp : List Addr), PG (X.blk s H scope (compEnvC scope cl C X.env) fp) tg (rG T is g))
    (ht : ∀ (s : Shared) (H : Hp) (C : Addr) (cl : List (Str × Addr)) (fp : List Addr), PTs (X.blk s H scope (compEnvC scope cl C X.env) fp) ifs (rT T t))
    (hn : ∀ (s : Shared) (H : Hp) (C : Addr) (cl : List (Str × Addr)) (fp : List Addr) (D : Addr), KU (X.blk s H scope (compEnvC scope cl C X.env) fp) (next D (compEnvC scope cl C X.env)) vs' (rU T mu D))
    (hv : own.map (·.2) = vs := by rfl) (hs : subL is vs = true := by rfl) (hs' : subL vs' vs = true := by rfl)
    (hturn : ∀ it D env, turnIs (.ListComp elt (⟨tg, iter, ifs, 0⟩ :: gs) scope pos) 0 it (.ref D) env tg iter ifs (next D env) := by intros; rfl) (hf : ∀ x : Value, foldedSetIterable iter X.env x = pure x := by intro _; rfl) :
    PE X (.ListComp elt (⟨tg, iter, ifs, 0⟩ :: gs) scope pos) (rE T (mTop (.lst false []) mi g t mu vs)) :=
  PEw ((cn_l c own hi ok hg ht hn hturn (by rw [show List.map (fun x => x.2) own = vs from hv]; exact subL_ok hs') hf).pe (pos' := firstIterPos (⟨tg, iter, ifs, 0⟩ :: gs) pos) (eval_ListComp _ _ _ _)) fun σ H Q q => by
    have e : List.map (fun x => x.2) own = vs := hv
    rw [e]
    exact top_read lst_new hs q
theorem sx_setLcN (c : Cn T k X) (own : List (Str × Nat)) (i : Nat) (hi : PI X tg iter (rI T mi)) (ok : BlkOk X.N X.env.scope scope own)
    (hg : ∀ (s : Shared) (H : Hp) (C : Addr) (cl : List (Str × Addr)) (fp : List Addr), PG (X.blk s H scope (compEnvC scope cl C X.env) fp) tg (rG T is g))
    (ht : ∀ (s : Shared) (H : Hp) (C : Addr) (cl : List (Str × Addr)) (fp : List Addr), PTs (X.blk s H scope (compEnvC scope cl C X.env) fp) ifs (rT T t))
    (hn : ∀ (s : Shared) (H : Hp) (C : Addr) (cl : List (Str × Addr)) (fp : List Addr) (D : Addr), KU (X.blk s H scope (compEnvC scope cl C X.env) fp) (next D (compEnvC scope cl C X.env)) vs' (rU T mu D))
    (hsw : swapsWith (.ListComp elt (⟨tg, iter, ifs, 0⟩ :: gs) scope pos) (some (.Name y py)) spos.line X.env = pure true) (hy : X.N[i]? = some y := by rfl) (hyl : X.env.scope.names.lookup y = some .local := by rfl)
    (hv : own.map (·.2) = vs := by rfl) (hs : subL is vs = true := by rfl) (hs' : subL vs' vs = true := by rfl)
    (hturn : ∀ it D env, turnIs (.ListComp elt (⟨tg, iter, ifs, 0⟩ :: gs) scope pos) 0 it (.ref D) env tg iter ifs (next D env) := by intros; rfl) (hf : ∀ x : Value, foldedSetIterable iter X.env x = pure x := by intro _; rfl) :
    PS X (.Assign [.Name y py] (.ListComp elt (⟨tg, iter, ifs, 0⟩ :: gs) scope pos) spos) (rS T (sSet i (mTop (.lst false []) mi g t mu vs))) :=
  PSw ((cn_l c own hi ok hg ht hn hturn (by rw [show List.map (fun x => x.2) own = vs from hv]; exact subL_ok hs') hf).ps (pos' := firstIterPos (⟨tg, iter, ifs, 0⟩ :: gs) pos) hy hyl hsw fun _ => rfl) fun E σ H ⟨ρ, σd, D, sr, hr, p⟩ => by
    have e : List.map (fun x => x.2) own = vs := hv
    rw [e]
    refine top_read lst_new hs (rE_then (f := fun d D1 => .nx (σd.set i (some d)) D1) sr hr p fun d D1 p ρ' H' v u h r => p ρ' H' _ u h ((sr.up u).set (d := some d) (o := some v) (OR.mk r) i))
theorem cn_d (c : Cn T k X) (own : List (Str × Nat)) (hi : PI X tg iter (rI T mi)) (ok : BlkOk X.N X.env.scope scope own)
    (hg : ∀ (s : Shared) (H : Hp) (C : Addr) (cl : List (Str × Addr)) (fp : List Addr), PG (X.blk s H scope (compEnvC scope cl C X.env) fp) tg (rG T is g))
    (ht : ∀ (s : Shared) (H : Hp) (C : Addr) (cl : List (Str × Addr)) (fp : List Addr), PTs (X.blk s H scope (compEnvC scope cl C X.env) fp) ifs (rT T t))
    (hn : ∀ (s : Shared) (H : Hp) (C : Addr) (cl : List (Str × Addr)) (fp : List Addr) (D : Addr), KU (X.blk s H scope (compEnvC scope cl C X.env) fp) (next D (compEnvC scope cl C X.env)) vs' (rU T mu D))
    (hturn : ∀ it D env, turnIs (.DictComp kx vx (⟨tg, iter, ifs, 0⟩ :: gs) scope pos) 0 it (.ref D) env tg iter ifs (next D env)) (hv' : ∀ i ∈ vs', i ∈ own.map (·.2)) (hf : ∀ x : Value, foldedSetIterable iter X.env x = pure x) :
    CN X (.DictComp kx vx (⟨tg, iter, ifs, 0⟩ :: gs) scope pos) tg iter ifs gs scope own newDict (fun _ => .dK []) next vs' (rI T mi) (rG T is g) (rT T t) (rU T mu) :=
  ⟨c.calm, c.nd, acc_dict, .d _ _ _ _ _, rfl, hturn, hi, ok, hg, ht, hn, hv', hf⟩
theorem ex_dcN (c : Cn T k X) (own : List (Str × Nat)) (hi : PI X tg iter (rI T mi)) (ok : BlkOk X.N X.env.scope scope own)
    (hg : ∀ (s : Shared) (H : Hp) (C : Addr) (cl : List (Str × Addr)) (fp : List Addr), PG (X.blk s H scope (compEnvC scope cl C X.env) fp) tg (rG T is g))
    (ht : ∀ (s : Shared) (H : Hp) (C : Addr) (cl : List (Str × Addr)) (fp : List Addr), PTs (X.blk s H scope (compEnvC scope cl C X.env) fp) ifs (rT T t))
    (hn : ∀ (s : Shared) (H : Hp) (C : Addr) (cl : List (Str × Addr)) (fp : List Addr) (D : Addr), KU (X.blk s H scope (compEnvC scope cl C X.env) fp) (next D (compEnvC scope cl C X.env)) vs' (rU T mu D))
    (hv : own.map (·.2) = vs := by rfl) (hs : subL is vs = true := by rfl) (hs' : subL vs' vs = true := by rfl)
    (hturn : ∀ it D env, turnIs (.DictComp kx vx (⟨tg, iter, ifs, 0⟩ :: gs) scope pos) 0 it (.ref D) env tg iter ifs (next D env) := by intros; rfl) (hf : ∀ x : Value, foldedSetIterable iter X.env x = pure x := by intro _; rfl) :
    PE X (.DictComp kx vx (⟨tg, iter, ifs, 0⟩ :: gs) scope pos) (rE T (mTop (.dK false []) mi g t mu vs)) :=
  PEw ((cn_d c own hi ok hg ht hn hturn (by rw [show List.map (fun x => x.2) own = vs from hv]; exact subL_ok hs') hf).pe (pos' := firstIterPos (⟨tg, iter, ifs, 0⟩ :: gs) pos) (arm_eval_DictComp _ _ _ _ _ _)) fun σ H Q q => by
    have e : List.map (fun x => x.2) own = vs := hv
    rw [e]
    exact top_read dK_new hs q
theorem sx_setDcN (c : Cn T k X) (own : List (Str × Nat)) (i : Nat) (hi : PI X tg iter (rI T mi)) (ok : BlkOk X.N X.env.scope scope own)
    (hg : ∀ (s : Shared) (H : Hp) (C : Addr) (cl : List (Str × Addr)) (fp : List Addr), PG (X.blk s H scope (compEnvC scope cl C X.env) fp) tg (rG T is g))
    (ht : ∀ (s : Shared) (H : Hp) (C : Addr) (cl : List (Str × Addr)) (fp : List Addr), PTs (X.blk s H scope (compEnvC scope cl C X.env) fp) ifs (rT T t))
    (hn : ∀ (s : Shared) (H : Hp) (C : Addr) (cl : List (Str × Addr)) (fp : List Addr) (D : Addr), KU (X.blk s H scope (compEnvC scope cl C X.env) fp) (next D (compEnvC scope cl C X.env)) vs' (rU T mu D))
    (hsw : swapsWith (.DictComp kx vx (⟨tg, iter, ifs, 0⟩ :: gs) scope pos) (some (.Name y py)) spos.line X.env = pure true) (hy : X.N[i]? = some y := by rfl) (hyl : X.env.scope.names.lookup y = some .local := by rfl)
    (hv : own.map (·.2) = vs := by rfl) (hs : subL is vs = true := by rfl) (hs' : subL vs' vs = true := by rfl)
    (hturn : ∀ it D env, turnIs (.DictComp kx vx (⟨tg, iter, ifs, 0⟩ :: gs) scope pos) 0 it (.ref D) env tg iter ifs (next D env) := by intros; rfl) (hf : ∀ x : Value, foldedSetIterable iter X.env x = pure x := by intro _; rfl) :
    PS X (.Assign [.Name y py] (.DictComp kx vx (⟨tg, iter, ifs, 0⟩ :: gs) scope pos) spos) (rS T (sSet i (mTop (.dK false []) mi g t mu vs))) :=
  PSw ((cn_d c own hi ok hg ht hn hturn (by rw [show List.map (fun x => x.2) own = vs from hv]; exact subL_ok hs') hf).ps (pos' := firstIterPos (⟨tg, iter, ifs, 0⟩ :: gs) pos) hy hyl hsw fun _ => rfl) fun E σ H ⟨ρ, σd, D, sr, hr, p⟩ => by
    have e : List.map (fun x => x.2) own = vs := hv
    rw [e]
    refine top_read dK_new hs (rE_then (f := fun d D1 => .nx (σd.set i (some d)) D1) sr hr p fun d D1 p ρ' H' v u h r => p ρ' H' _ u h ((sr.up u).set (d := some d) (o := some v) (OR.mk r) i))
end
end FH

namespace FH
open PySem PySem.Spec PyProof.Rows L2

/-! ### the forms that a derivation uses -/
def turnSub (e : Expr) (d : Nat) (it acc : Value) (env : Env) (tg iter : Expr) (ifs : List Expr) (iter1 : Expr) : Prop :=
  compTurn e d it acc env = (do
    standAt iter.pos
    match ← pyNext it with
    | none => pure (.done .next)
    | some v =>
      letOwnedTupleGo tg it v
      assign tg env v
      let mut ok := true
      for c in ifs do
        if ok then ok ← isTrue c env (eval c env)
      if ok then
        let x ← eval iter1 env
        standAt iter1.pos
        let x ← foldedSetIterable iter1 env x
        let _ ← runOwn (.compStart e (d + 1) (← holding [x] (pyIter x)) acc env) env
      again (.compLoop e d it acc env))
theorem turn_sub {e : Expr} {d : Nat} {it acc : Value} {env : Env} {tg iter : Expr} {ifs : List Expr} {iter1 : Expr} (h : turnSub e d it acc env tg iter ifs iter1) : turnIs e d it acc env tg iter ifs (subC e (d + 1) acc env iter1) := by
  unfold turnIs
  have h : compTurn e d it acc env = _ := h
  rw [h]
  simp only [subC, bind_assoc, pure_bind]
  all_goals rfl
section
variable {T : Tb} {k : Nat} {X : Cx} {e elt kx vx tg iter tg1 iter1 iter2 : Expr} {ifs ifs1 : List Expr} {gs : List Comprehension} {scope : Scope} {pos spos py : Pos} {vs' is vs : List Nat} {mi : MI} {g : MG} {t : MT} {mu : MU} {m mk mv : ME} {y : Str} {d : Nat} {D : Addr}
theorem un_mid (c : Cn T k X) (hi : PI X tg iter (rI T mi)) (hg : PG X tg (rG T is g)) (hts : PTs X ifs (rT T t)) (hn : KU X (subC e (d + 1) (.ref D) X.env iter2) vs' (rU T mu D))
    (hk : IsComp e := by first | exact .l _ _ _ _ | exact .d _ _ _ _ _ | exact .s _ _ _ _) (he : (clausesOf e)[d]? = some ⟨tg, iter, ifs, 0⟩ := by rfl) (ht : ∀ it, turnSub e d it (.ref D) X.env tg iter ifs iter2 := by intros; unfold FH.turnSub; rfl)
    (hs : subL is vs = true := by rfl) (hv : subL vs' vs = true := by rfl) (hf : ∀ x, foldedSetIterable iter X.env x = pure x := by intro _; rfl) : KU X (subC e d (.ref D) X.env iter) vs (rU T (mCl mi g t mu vs) D) :=
  un_clause (k := k) (fun v s z => by rw [c.xe] at z; exact z) c.calm hk he (fun it => turn_sub (ht it)) hi hg hts hn hs hv hf
theorem un_lastL (c : Cn T k X) (hi : PI X tg iter (rI T mi)) (hg : PG X tg (rG T is g)) (hts : PTs X ifs (rT T t)) (hn : PE X elt (rE T m))
    (he : gs[d]? = some ⟨tg, iter, ifs, 0⟩ := by rfl) (ht : ∀ it, turnIs (.ListComp elt gs scope pos) d it (.ref D) X.env tg iter ifs (do let _ ← call (.builtin "list.append") [.ref D, ← eval elt X.env]) := by intros; unfold FH.turnIs; rfl)
    (hs : subL is vs = true := by rfl) (hf : ∀ x, foldedSetIterable iter X.env x = pure x := by intro _; rfl) : KU X (subC (.ListComp elt gs scope pos) d (.ref D) X.env iter) vs (rU T (mCl mi g t (uApp m) vs) D) :=
  un_clause (k := k) (fun v s z => by rw [c.xe] at z; exact z) c.calm (.l _ _ _ _) he ht hi hg hts (un_app hn) hs rfl hf
theorem un_lastD (c : Cn T k X) (hi : PI X tg iter (rI T mi)) (hg : PG X tg (rG T is g)) (hts : PTs X ifs (rT T t)) (hkx : PE X kx (rE T mk)) (hvx : PE X vx (rE T mv))
    (he : gs[d]? = some ⟨tg, iter, ifs, 0⟩ := by rfl) (ht : ∀ it, turnIs (.DictComp kx vx gs scope pos) d it (.ref D) X.env tg iter ifs (putC kx vx D X.env) := by intros; unfold FH.turnIs; rfl)
    (hs : subL is vs = true := by rfl) (hf : ∀ x, foldedSetIterable iter X.env x = pure x := by intro _; rfl) : KU X (subC (.DictComp kx vx gs scope pos) d (.ref D) X.env iter) vs (rU T (mCl mi g t (uPut mk mv) vs) D) :=
  un_clause (k := k) (fun v s z => by rw [c.xe] at z; exact z) c.calm (.d _ _ _ _ _) he ht hi hg hts (un_put hkx hvx) hs rfl hf
theorem ex_lcM (c : Cn T k X) (own : List (Str × Nat)) (hi : PI X tg iter (rI T mi)) (ok : BlkOk X.N X.env.scope scope own)
    (hg : ∀ (s : Shared) (H : Hp) (C : Addr) (cl : List (Str × Addr)) (fp : List Addr), PG (X.blk s H scope (compEnvC scope cl C X.env) fp) tg (rG T is g))
    (ht : ∀ (s : Shared) (H : Hp) (C : Addr) (cl : List (Str × Addr)) (fp : List Addr), PTs (X.blk s H scope (compEnvC scope cl C X.env) fp) ifs (rT T t))
    (hn : ∀ (s : Shared) (H : Hp) (C : Addr) (cl : List (Str × Addr)) (fp : List Addr) (D : Addr), KU (X.blk s H scope (compEnvC scope cl C X.env) fp) (subC (.ListComp elt (⟨tg, iter, ifs, 0⟩ :: ⟨tg1, iter1, ifs1, 0⟩ :: gs) scope pos) 1 (.ref D) (X.blk s H scope (compEnvC scope cl C X.env) fp).env iter1) vs' (rU T mu D))
    (hv : own.map (·.2) = vs := by rfl) (hs : subL is vs = true := by rfl) (hs' : subL vs' vs = true := by rfl) (hf : ∀ x : Value, foldedSetIterable iter X.env x = pure x := by intro _; rfl) :
    PE X (.ListComp elt (⟨tg, iter, ifs, 0⟩ :: ⟨tg1, iter1, ifs1, 0⟩ :: gs) scope pos) (rE T (mTop (.lst false []) mi g t mu vs)) :=
  ex_lcN (next := fun D env => subC (.ListComp elt (⟨tg, iter, ifs, 0⟩ :: ⟨tg1, iter1, ifs1, 0⟩ :: gs) scope pos) 1 (.ref D) env iter1) c own hi ok hg ht hn hv hs hs' (fun it D env => turn_sub (d := 0) (by unfold turnSub; rfl)) hf
theorem sx_setLcM (c : Cn T k X) (own : List (Str × Nat)) (i : Nat) (hi : PI X tg iter (rI T mi)) (ok : BlkOk X.N X.env.scope scope own)
    (hg : ∀ (s : Shared) (H : Hp) (C : Addr) (cl : List (Str × Addr)) (fp : List Addr), PG (X.blk s H scope (compEnvC scope cl C X.env) fp) tg (rG T is g))
    (ht : ∀ (s : Shared) (H : Hp) (C : Addr) (cl : List (Str × Addr)) (fp : List Addr), PTs (X.blk s H scope (compEnvC scope cl C X.env) fp) ifs (rT T t))
    (hn : ∀ (s : Shared) (H : Hp) (C : Addr) (cl : List (Str × Addr)) (fp : List Addr) (D : Addr), KU (X.blk s H scope (compEnvC scope cl C X.env) fp) (subC (.ListComp elt (⟨tg, iter, ifs, 0⟩ :: ⟨tg1, iter1, ifs1, 0⟩ :: gs) scope pos) 1 (.ref D) (X.blk s H scope (compEnvC scope cl C X.env) fp).env iter1) vs' (rU T mu D))
    (hsw : swapsWith (.ListComp elt (⟨tg, iter, ifs, 0⟩ :: ⟨tg1, iter1, ifs1, 0⟩ :: gs) scope pos) (some (.Name y py)) spos.line X.env = pure true) (hy : X.N[i]? = some y := by rfl) (hyl : X.env.scope.names.lookup y = some .local := by rfl)
    (hv : own.map (·.2) = vs := by rfl) (hs : subL is vs = true := by rfl) (hs' : subL vs' vs = true := by rfl) (hf : ∀ x : Value, foldedSetIterable iter X.env x = pure x := by intro _; rfl) :
    PS X (.Assign [.Name y py] (.ListComp elt (⟨tg, iter, ifs, 0⟩ :: ⟨tg1, iter1, ifs1, 0⟩ :: gs) scope pos) spos) (rS T (sSet i (mTop (.lst false []) mi g t mu vs))) :=
  sx_setLcN (next := fun D env => subC (.ListComp elt (⟨tg, iter, ifs, 0⟩ :: ⟨tg1, iter1, ifs1, 0⟩ :: gs) scope pos) 1 (.ref D) env iter1) c own i hi ok hg ht hn hsw hy hyl hv hs hs' (fun it D env => turn_sub (d := 0) (by unfold turnSub; rfl)) hf
theorem ex_dcM (c : Cn T k X) (own : List (Str × Nat)) (hi : PI X tg iter (rI T mi)) (ok : BlkOk X.N X.env.scope scope own)
    (hg : ∀ (s : Shared) (H : Hp) (C : Addr) (cl : List (Str × Addr)) (fp : List Addr), PG (X.blk s H scope (compEnvC scope cl C X.env) fp) tg (rG T is g))
    (ht : ∀ (s : Shared) (H : Hp) (C : Addr) (cl : List (Str × Addr)) (fp : List Addr), PTs (X.blk s H scope (compEnvC scope cl C X.env) fp) ifs (rT T t))
    (hn : ∀ (s : Shared) (H : Hp) (C : Addr) (cl : List (Str × Addr)) (fp : List Addr) (D : Addr), KU (X.blk s H scope (compEnvC scope cl C X.env) fp) (subC (.DictComp kx vx (⟨tg, iter, ifs, 0⟩ :: ⟨tg1, iter1, ifs1, 0⟩ :: gs) scope pos) 1 (.ref D) (X.blk s H scope (compEnvC scope cl C X.env) fp).env iter1) vs' (rU T mu D))
    (hv : own.map (·.2) = vs := by rfl) (hs : subL is vs = true := by rfl) (hs' : subL vs' vs = true := by rfl) (hf : ∀ x : Value, foldedSetIterable iter X.env x = pure x := by intro _; rfl) :
    PE X (.DictComp kx vx (⟨tg, iter, ifs, 0⟩ :: ⟨tg1, iter1, ifs1, 0⟩ :: gs) scope pos) (rE T (mTop (.dK false []) mi g t mu vs)) :=
  ex_dcN (next := fun D env => subC (.DictComp kx vx (⟨tg, iter, ifs, 0⟩ :: ⟨tg1, iter1, ifs1, 0⟩ :: gs) scope pos) 1 (.ref D) env iter1) c own hi ok hg ht hn hv hs hs' (fun it D env => turn_sub (d := 0) (by unfold turnSub; rfl)) hf
theorem sx_setDcM (c : Cn T k X) (own : List (Str × Nat)) (i : Nat) (hi : PI X tg iter (rI T mi)) (ok : BlkOk X.N X.env.scope scope own)
    (hg : ∀ (s : Shared) (H : Hp) (C : Addr) (cl : List (Str × Addr)) (fp : List Addr), PG (X.blk s H scope (compEnvC scope cl C X.env) fp) tg (rG T is g))
    (ht : ∀ (s : Shared) (H : Hp) (C : Addr) (cl : List (Str × Addr)) (fp : List Addr), PTs (X.blk s H scope (compEnvC scope cl C X.env) fp) ifs (rT T t))
    (hn : ∀ (s : Shared) (H : Hp) (C : Addr) (cl : List (Str × Addr)) (fp : List Addr) (D : Addr), KU (X.blk s H scope (compEnvC scope cl C X.env) fp) (subC (.DictComp kx vx (⟨tg, iter, ifs, 0⟩ :: ⟨tg1, iter1, ifs1, 0⟩ :: gs) scope pos) 1 (.ref D) (X.blk s H scope (compEnvC scope cl C X.env) fp).env iter1) vs' (rU T mu D))
    (hsw : swapsWith (.DictComp kx vx (⟨tg, iter, ifs, 0⟩ :: ⟨tg1, iter1, ifs1, 0⟩ :: gs) scope pos) (some (.Name y py)) spos.line X.env = pure true) (hy : X.N[i]? = some y := by rfl) (hyl : X.env.scope.names.lookup y = some .local := by rfl)
    (hv : own.map (·.2) = vs := by rfl) (hs : subL is vs = true := by rfl) (hs' : subL vs' vs = true := by rfl) (hf : ∀ x : Value, foldedSetIterable iter X.env x = pure x := by intro _; rfl) :
    PS X (.Assign [.Name y py] (.DictComp kx vx (⟨tg, iter, ifs, 0⟩ :: ⟨tg1, iter1, ifs1, 0⟩ :: gs) scope pos) spos) (rS T (sSet i (mTop (.dK false []) mi g t mu vs))) :=
  sx_setDcN (next := fun D env => subC (.DictComp kx vx (⟨tg, iter, ifs, 0⟩ :: ⟨tg1, iter1, ifs1, 0⟩ :: gs) scope pos) 1 (.ref D) env iter1) c own i hi ok hg ht hn hsw hy hyl hv hs hs' (fun it D env => turn_sub (d := 0) (by unfold turnSub; rfl)) hf
theorem ex_dc1 (c : Cn T k X) (own : List (Str × Nat)) (hi : PI X tg iter (rI T mi)) (ok : BlkOk X.N X.env.scope scope own)
    (hg : ∀ (s : Shared) (H : Hp) (C : Addr) (cl : List (Str × Addr)) (fp : List Addr), PG (X.blk s H scope (compEnvC scope cl C X.env) fp) tg (rG T is g))
    (ht : ∀ (s : Shared) (H : Hp) (C : Addr) (cl : List (Str × Addr)) (fp : List Addr), PTs (X.blk s H scope (compEnvC scope cl C X.env) fp) ifs (rT T t))
    (hk : ∀ (s : Shared) (H : Hp) (C : Addr) (cl : List (Str × Addr)) (fp : List Addr), PE (X.blk s H scope (compEnvC scope cl C X.env) fp) kx (rE T mk))
    (hx : ∀ (s : Shared) (H : Hp) (C : Addr) (cl : List (Str × Addr)) (fp : List Addr), PE (X.blk s H scope (compEnvC scope cl C X.env) fp) vx (rE T mv))
    (hv : own.map (·.2) = vs := by rfl) (hs : subL is vs = true := by rfl) (hf : ∀ x : Value, foldedSetIterable iter X.env x = pure x := by intro _; rfl) :
    PE X (.DictComp kx vx [⟨tg, iter, ifs, 0⟩] scope pos) (rE T (mTop (.dK false []) mi g t (uPut mk mv) vs)) :=
  ex_dcN (next := fun D env => putC kx vx D env) c own hi ok hg ht (fun s H C cl fp D => un_put (hk s H C cl fp) (hx s H C cl fp)) hv hs rfl (by intros; unfold turnIs; rfl) hf
/-- one clause, given to a name on one line -/
theorem sx_setDc (c : Cn T k X) (own : List (Str × Nat)) (i : Nat) (hi : PI X tg iter (rI T mi)) (ok : BlkOk X.N X.env.scope scope own)
    (hg : ∀ (s : Shared) (H : Hp) (C : Addr) (cl : List (Str × Addr)) (fp : List Addr), PG (X.blk s H scope (compEnvC scope cl C X.env) fp) tg (rG T is g))
    (ht : ∀ (s : Shared) (H : Hp) (C : Addr) (cl : List (Str × Addr)) (fp : List Addr), PTs (X.blk s H scope (compEnvC scope cl C X.env) fp) ifs (rT T t))
    (hk : ∀ (s : Shared) (H : Hp) (C : Addr) (cl : List (Str × Addr)) (fp : List Addr), PE (X.blk s H scope (compEnvC scope cl C X.env) fp) kx (rE T mk))
    (hx : ∀ (s : Shared) (H : Hp) (C : Addr) (cl : List (Str × Addr)) (fp : List Addr), PE (X.blk s H scope (compEnvC scope cl C X.env) fp) vx (rE T mv))
    (hsw : swapsWith (.DictComp kx vx [⟨tg, iter, ifs, 0⟩] scope pos) (some (.Name y py)) spos.line X.env = pure true) (hy : X.N[i]? = some y := by rfl) (hyl : X.env.scope.names.lookup y = some .local := by rfl)
    (hv : own.map (·.2) = vs := by rfl) (hs : subL is vs = true := by rfl) (hf : ∀ x : Value, foldedSetIterable iter X.env x = pure x := by intro _; rfl) :
    PS X (.Assign [.Name y py] (.DictComp kx vx [⟨tg, iter, ifs, 0⟩] scope pos) spos) (rS T (sSet i (mTop (.dK false []) mi g t (uPut mk mv) vs))) :=
  sx_setDcN (next := fun D env => putC kx vx D env) c own i hi ok hg ht (fun s H C cl fp D => un_put (hk s H C cl fp) (hx s H C cl fp)) hsw hy hyl hv hs rfl (by intros; unfold turnIs; rfl) hf
end
end FH

/-! The head of our programs: what the top has left, read off in the same kernel run. -/
namespace FH
open PySem PySem.Spec PyProof.Rows L2

/-! ### a part of the heap, laid out before it is looked at -/
def frObj {α : Type} (o : Obj) (k : Obj → α) : α := match o with
  | ⟨c, d, dt, sl⟩ => k ⟨c, d, dt, sl⟩
theorem frObj_eq {α : Type} (o : Obj) (k : Obj → α) : frObj o k = k o := by cases o; rfl
def frAs {α : Type} : List Addr → (List Addr → α) → α
  | [], k => k []
  | a :: r, k => HandSHeadRun.frNat a fun a => frAs r fun r => k (a :: r)
theorem frAs_eq {α : Type} : ∀ (as : List Addr) (k : List Addr → α), frAs as k = k as
  | [], k => rfl
  | a :: r, k => by unfold frAs; rw [HandSHeadRun.frNat_eq, frAs_eq r]
def frK {α : Type} : PySem.W.Frag → (PySem.W.Frag → α) → α
  | [], k => k []
  | (a, o) :: r, k => HandSHeadRun.frNat a fun a => frObj o fun o => frK r fun r => k ((a, o) :: r)
theorem frK_eq {α : Type} : ∀ (K : PySem.W.Frag) (k : PySem.W.Frag → α), frK K k = k K
  | [], k => rfl
  | (a, o) :: r, k => by unfold frK; rw [HandSHeadRun.frNat_eq, frObj_eq, frK_eq r]
/-- what one looks at next: a class's names, a def's code and defaults, a table's values, a tuple's items, a property's defs -/
def goesTo (o : Obj) : List Addr := match o.data with
  | .dict es _ => es.toList.flatMap fun e => He.refV e.val
  | .seq its _ => its.toList.flatMap He.refV
  | .cls cd => [cd.ns]
  | .func fd => He.refV fd.code ++ (He.refV fd.defaults ++ He.refV fd.kwdefaults)
  | .fields vs => (match o.cls with
    | .type n => cond (n == "property") (vs.toList.flatMap He.refV) []
    | _ => [])
  | _ => []
def nextAs (g : Addr → Option Obj) (as : List Addr) : List Addr := as.flatMap fun a => match g a with
  | some o => goesTo o
  | none => []
def allAs {α : Type} (g : Addr → Option Obj) : Nat → List Addr → (List Addr → α) → α
  | 0, as, k => k as
  | n + 1, as, k => frAs (nextAs g as) fun bs => allAs g n bs fun cs => k (as ++ cs)
/-- the same, as a list -/
def asL (g : Addr → Option Obj) : Nat → List Addr → List Addr
  | 0, as => as
  | n + 1, as => as ++ asL g n (nextAs g as)
theorem allAs_eq {α : Type} (g : Addr → Option Obj) : ∀ (n : Nat) (as : List Addr) (k : List Addr → α), allAs g n as k = k (asL g n as)
  | 0, as, k => rfl
  | n + 1, as, k => by unfold allAs; rw [frAs_eq, allAs_eq g n]; rfl
def partK (g : Addr → Option Obj) : PySem.W.Frag := He.frG g (asL g 5 [mainGlobals])

/-! ### plain data of the module -/
mutual
def dvB (K : PySem.W.Frag) : DV → Value → Bool
  | .non, u => (match u with | .none => true | _ => false)
  | .bl b, u => (match u with | .bool c => b == c | _ => false)
  | .int i, u => (match u with | .int j _ => decide (i = j) | _ => false)
  | .str cs, u => (match u with | .str y _ => decide ((⟨cs.toArray⟩ : Str) = y) | _ => false)
  | .tup xs, u => (match u with
    | .ref a => (match K.lookup a with
      | some ⟨.type c, _, .seq its _, _⟩ => decide (c = "tuple") && (decide (its.size ≤ sizeLine) && dvsB K xs its.toList)
      | _ => false)
    | _ => false)
  | .loc _, _ => false
  | .cn _, _ => false
  | .opq, _ => false
  | .act, _ => false
def dvsB (K : PySem.W.Frag) : List DV → List Value → Bool
  | [], us => us.isEmpty
  | x :: xs, us => (match us with
    | u :: us => dvB K x u && dvsB K xs us
    | [] => false)
end
mutual
theorem dvB_ok {K : PySem.W.Frag} : ∀ {d : DV} {u : Value}, dvB K d u = true → ∃ v : V, RelV v u ∧ ∀ (T : Tb), T.K = K → ∀ ρ H, VR T ρ H d v
  | .non, u, h => by
    cases u with
    | none => exact ⟨.non, rfl, fun _ _ _ _ => rfl⟩
    | _ => cases h
  | .bl b, u, h => by
    cases u with
    | bool c =>
      have e : b = c := eq_of_beq (show (b == c) = true from h)
      subst e
      exact ⟨.bl b, rfl, fun _ _ _ _ => rfl⟩
    | _ => cases h
  | .int i, u, h => by
    cases u with
    | int j t =>
      have e : i = j := of_decide_eq_true h
      subst e
      exact ⟨.int i, ⟨t, rfl⟩, fun _ _ _ _ => rfl⟩
    | _ => cases h
  | .str cs, u, h => by
    cases u with
    | str y t =>
      have e : (⟨cs.toArray⟩ : Str) = y := of_decide_eq_true h
      subst e
      exact ⟨.str ⟨cs.toArray⟩, ⟨t, rfl⟩, fun _ _ _ _ => rfl⟩
    | _ => cases h
  | .tup xs, u, h => by
    cases u with
    | ref a =>
      have h1 : (match K.lookup a with
        | some ⟨.type c, _, .seq its _, _⟩ => decide (c = "tuple") && (decide (its.size ≤ sizeLine) && dvsB K xs its.toList)
        | _ => false) = true := h
      cases q : K.lookup a with
      | none => rw [q] at h1; cases h1
      | some o =>
        obtain ⟨oc, od, dt, osl⟩ := o
        rw [q] at h1
        cases oc with
        | type c =>
          cases dt with
          | seq its n =>
            obtain ⟨h2, h3⟩ := Bool.and_eq_true_iff.mp (show (decide (c = "tuple") && (decide (its.size ≤ sizeLine) && dvsB K xs its.toList)) = true from h1)
            obtain ⟨h4, h5⟩ := Bool.and_eq_true_iff.mp h3
            obtain ⟨vs, r1, r2⟩ := dvsB_ok h5
            exact ⟨.ref a, rfl, fun T e ρ H => ⟨a, vs, rfl, .inr ⟨_, its, n, by rw [e]; exact q, congrArg Value.type (of_decide_eq_true h2), rfl, of_decide_eq_true h4, r1⟩, r2 T e ρ H⟩⟩
          | _ => cases h1
        | _ => cases dt <;> cases h1
    | _ => cases h
  | .loc _, _, h => by cases h
  | .cn _, _, h => by cases h
  | .opq, _, h => by cases h
  | .act, _, h => by cases h
theorem dvsB_ok {K : PySem.W.Frag} : ∀ {ds : List DV} {us : List Value}, dvsB K ds us = true → ∃ vs : List V, Vals vs us ∧ ∀ (T : Tb), T.K = K → ∀ ρ H, VRs T ρ H ds vs
  | [], us, h => by
    cases us with
    | nil => exact ⟨[], .nil, fun _ _ _ _ => rfl⟩
    | cons _ _ => cases h
  | x :: xs, us, h => by
    cases us with
    | nil => cases h
    | cons u us =>
      obtain ⟨h1, h2⟩ := Bool.and_eq_true_iff.mp (show (dvB K x u && dvsB K xs us) = true from h)
      obtain ⟨v, r1, r2⟩ := dvB_ok h1
      obtain ⟨vs, r3, r4⟩ := dvsB_ok h2
      exact ⟨v :: vs, .cons r1 r3, fun T e ρ H => ⟨v, vs, rfl, r2 T e ρ H, r4 T e ρ H⟩⟩
end

/-! ### facts -/
def prB (K : PySem.W.Frag) (c m : Str) : Bool :=
  He.eqO (PySem.W.findIn K (.ref (He.ga K c)) m) (some (some (.ref (He.ma K (He.ga K c) m)))) && (He.eqO (PySem.W.specialIn K (.ref (He.ma K (He.ga K c) m)) "__get__") (some (some (.builtin "property.__get__"))) &&
    decide (PySem.W.takesIn K (.ref (He.ma K (He.ga K c) m)) = some true))
/-- where a def stands: a global's, a class's method's, a property's -/
inductive Ad where
  | glo (x : Str)
  | mth (c m : Str)
  | prp (c m : Str)
def Ad.at (K : PySem.W.Frag) : Ad → Addr
  | .glo x => He.ga K x
  | .mth c m => He.ma K (He.ga K c) m
  | .prp c m => (match PySem.W.recIn K (He.ma K (He.ga K c) m) "property" with
    | some (.ref g :: _) => g
    | _ => 0)
def Ad.ok (K : PySem.W.Frag) : Ad → Bool
  | .glo x => (He.Fa.glo x).ok K
  | .mth c m => (He.Fa.meth c m).ok K
  | .prp c m => prB K c m && (match PySem.W.recIn K (He.ma K (He.ga K c) m) "property" with
    | some (.ref _ :: _) => true
    | _ => false)
theorem prop_of {K : PySem.W.Frag} {c m : Str} (h : (Ad.prp c m).ok K = true) : PropOf K (He.ga K c) m (He.ma K (He.ga K c) m) ((Ad.prp c m).at K) := by
  obtain ⟨h1, h2⟩ := Bool.and_eq_true_iff.mp h
  obtain ⟨h3, h4⟩ := Bool.and_eq_true_iff.mp h1
  obtain ⟨h5, h6⟩ := Bool.and_eq_true_iff.mp h4
  refine ⟨He.eqO_ok h3, He.eqO_ok h5, of_decide_eq_true h6, ?_⟩
  show ∃ rest, PySem.W.recIn K (He.ma K (He.ga K c) m) "property" = some (.ref (match PySem.W.recIn K (He.ma K (He.ga K c) m) "property" with
    | some (.ref g :: _) => g
    | _ => 0) :: rest)
  split at h2
  · rename_i a r q
    rw [q]
    exact ⟨r, rfl⟩
  · cases h2
def kitB (cs : List Str) (K : PySem.W.Frag) : Bool :=
  (List.range cs.length).all fun c => (He.Fa.cls (cs.getD c "")).ok K && (He.eqO (PySem.W.findIn K (.ref (He.ga K (cs.getD c ""))) (Str.ofString "__class__")) (some (some (.builtin "object.__class__"))) &&
    (decide (PySem.W.mroIn K (He.ga K (cs.getD c "")) (.type "object") = some true) &&
    ((List.range cs.length).all fun d => decide (PySem.W.kitOne K (.ref (He.ga K (cs.getD c ""))) (.ref (He.ga K (cs.getD d ""))) = some (Nat.beq c d))) &&
    ((List.range 7).all fun n => decide (PySem.W.kitOne K (.ref (He.ga K (cs.getD c ""))) (.type (tyN n)) = some false) && decide (PySem.W.kitOne K (.type (tyN n)) (.ref (He.ga K (cs.getD c ""))) = some false))))
def objB (K : PySem.W.Frag) : Bool := He.eqO (PySem.W.specialIn K (.builtin "object.__class__") (Str.ofString "__get__")) (some (some (.builtin "getset_descriptor.__get__"))) && decide (PySem.W.takesIn K (.builtin "object.__class__") = some true)
def fldsB (cs fs : List Str) (K : PySem.W.Frag) : Bool := (List.range cs.length).all fun c => (List.range fs.length).all fun f => He.eqO (PySem.W.findIn K (.ref (He.ga K (cs.getD c ""))) (fs.getD f "")) (some none)
inductive Fq where
  | he (f : He.Fa)
  | con (x : Str) (d : DV)
def Fq.ok (K : PySem.W.Frag) : Fq → Bool
  | .he f => f.ok K
  | .con x d => (match PySem.W.nsIn K mainGlobals x with
    | some (some (.ref a)) => dvB K d (.ref a)
    | _ => false)

/-! ### defs -/
structure DefQ where
  ad : Ad
  name : Str
  qual : Str
  st : Stmt
  kwd : List (Str × DV) := []
def fnAt (K : PySem.W.Frag) (a : Ad) : He.FnW := match K.lookup (a.at K) with
  | some ⟨_, _, .func fd, _⟩ => some (fd.name, fd.qualname, fd.params, fd.body, fd.scope, fd.globals, fd.closure, fd.builtins)
  | _ => none
def DefQ.val (d : DefQ) : He.FnW := some (d.name, d.qual, defArgs d.st, .stmts (defBody d.st), defScope d.st, mainGlobals, [], builtinsNs)
/-- the keyword defaults -/
def kw1 (K : PySem.W.Frag) (kV : Value) (q : Str × DV) : Bool := match kV with
  | .ref D => (match PySem.W.nsIn K D q.1 with
    | some (some u) => dvB K q.2 u
    | _ => false)
  | _ => false
def kwB (K : PySem.W.Frag) (kV : Value) : List (Str × DV) → Bool
  | [] => true
  | q :: qs => kw1 K kV q && kwB K kV qs
def nonB : Value → Bool
  | .none => true
  | _ => false
def DefQ.ok (K : PySem.W.Frag) (d : DefQ) : Bool := d.ad.ok K && (PySem.W.keepIn K (.ref (d.ad.at K)) && (match K.lookup (d.ad.at K) with
  | some ⟨_, _, .func fd, _⟩ => PySem.W.codeIn K fd.code d.qual && (nonB fd.defaults && kwB K fd.kwdefaults d.kwd)
  | _ => false))
theorem kwB_ok {K : PySem.W.Frag} {kV : Value} : ∀ {qs : List (Str × DV)}, kwB K kV qs = true → ∃ kws : List (Str × V), kws.map (·.1) = qs.map (·.1) ∧ (kws = [] ∨ ∃ D : Addr, kV = .ref D ∧ ∀ q ∈ kws, ∃ u, PySem.W.nsIn K D q.1 = some (some u) ∧ RelV q.2 u) ∧
    ∀ (T : Tb), T.K = K → ∀ ρ H, VRs T ρ H (qs.map (·.2)) (kws.map (·.2))
  | [], _ => ⟨[], rfl, .inl rfl, fun _ _ _ _ => rfl⟩
  | q :: qs, h => by
    obtain ⟨h1, h2⟩ := Bool.and_eq_true_iff.mp (show (kw1 K kV q && kwB K kV qs) = true from h)
    obtain ⟨kws, e, r, s⟩ := kwB_ok h2
    cases kV with
    | ref D =>
      have h3 : (match PySem.W.nsIn K D q.1 with
        | some (some u) => dvB K q.2 u
        | _ => false) = true := h1
      split at h3
      · rename_i u g
        obtain ⟨v, r1, r2⟩ := dvB_ok h3
        refine ⟨(q.1, v) :: kws, by simp [e], .inr ⟨D, rfl, fun p hp => ?_⟩, fun T e ρ H => ⟨v, _, rfl, r2 T e ρ H, s T e ρ H⟩⟩
        rcases List.mem_cons.mp hp with z | z
        · rw [z]; exact ⟨u, g, r1⟩
        · rcases r with r | ⟨D', eD, r⟩
          · rw [r] at z; cases z
          · cases eD; exact r p z
      · cases h3
    | _ => cases h1
/-- a def with its keyword defaults, as plain data -/
structure FunQ (K : PySem.W.Frag) (d : DefQ) (fd : FuncData) (kws : List (Str × V)) : Prop where
  fn : FunD K d.name d.qual (defArgs d.st) (defBody d.st) (defScope d.st) [] kws (d.ad.at K) fd
  names : kws.map (·.1) = d.kwd.map (·.1)
  vals : ∀ (T : Tb), T.K = K → ∀ ρ H, VRs T ρ H (d.kwd.map (·.2)) (kws.map (·.2))
theorem DefQ.funQ {K : PySem.W.Frag} {d : DefQ} (e : fnAt K d.ad = d.val) (c : d.ok K = true) : ∃ fd kws, FunQ K d fd kws := by
  obtain ⟨_, c1⟩ := Bool.and_eq_true_iff.mp c
  obtain ⟨kp, c2⟩ := Bool.and_eq_true_iff.mp c1
  unfold fnAt at e
  cases q : K.lookup (d.ad.at K) with
  | none => rw [q] at c2; cases c2
  | some o =>
    obtain ⟨oc, od, dt, osl⟩ := o
    rw [q] at c2 e
    cases dt with
    | func fd =>
      obtain ⟨n1, n2, n3, n4, n5, n6, n7, n8, n9, n10, n11, n12, n13, n14, n15⟩ := fd
      have e2 : (some (n1, n2, n3, n4, n5, n6, n7, n15) : He.FnW) = d.val := e
      unfold DefQ.val at e2
      simp only [Option.some.injEq, Prod.mk.injEq] at e2
      obtain ⟨g1, g2, g3, g4, g5, g6, g7, g8⟩ := e2
      subst g1 g2 g3 g4 g5 g6 g7 g8
      obtain ⟨k1, k2⟩ := Bool.and_eq_true_iff.mp (show (PySem.W.codeIn K n13 d.qual && (nonB n8 && kwB K n9 d.kwd)) = true from c2)
      obtain ⟨k3, k4⟩ := Bool.and_eq_true_iff.mp k2
      have k5 : n8 = .none := by
        cases n8 with
        | none => rfl
        | _ => cases k3
      obtain ⟨kws, a1, a2, a3⟩ := kwB_ok k4
      exact ⟨_, kws, ⟨⟨oc, od, n8, n9, n10, n11, n12, n13, n14, osl, rfl, q, k1, .inl ⟨rfl, k5⟩, a2⟩, kp⟩, a1, a3⟩
    | _ => cases c2
theorem FunQ.fun_ {K : PySem.W.Frag} {d : DefQ} {fd : FuncData} {kws : List (Str × V)} (F : FunQ K d fd kws) : L2.Fun K d.name d.qual d.st (d.ad.at K) fd := by
  obtain ⟨⟨⟨oc, od, dV, kV, doc, pm, an, cdv, ct, osl, h1, h2, h3, h4, h5⟩, kp⟩, _, _⟩ := F
  have e : dV = .none := by
    rcases h4 with ⟨_, e⟩ | ⟨e, _⟩
    · exact e
    · exact absurd rfl e
  subst e
  exact ⟨⟨oc, od, kV, doc, pm, an, cdv, ct, osl, h1, h2, h3⟩, kp⟩

/-! ### what is told of the head's heap -/
structure SaysM (fa : List Fq) (cs fs : List Str) (fn : List DefQ) (tf : List He.Defn) (h : Heap) (K : PySem.W.Frag) : Prop where
  f : (fa.all fun f => f.ok K) = true
  c : (objB K && (kitB cs K && fldsB cs fs K)) = true
  dk : (fn.all fun d => d.ok K) = true
  d : fn.map (fun d => fnAt K d.ad) = fn.map DefQ.val
  hd : ∀ p ∈ tf, PySem.W.codeHdIn K (He.cT K p).1 (He.cT K p).2 = true
  out : ∀ p ∈ tf, K.lookup (He.cT K p).2 = none
  empty : ∀ p ∈ tf, h.get? (He.cT K p).2 = some { cls := .none, data := .fields #[] }
  nd : (tf.map fun p => (He.cT K p).2).Nodup
def nodupB : List Addr → Bool
  | [] => true
  | a :: r => (r.all fun b => !Nat.beq a b) && nodupB r
theorem nodupB_ok : ∀ {l : List Addr}, nodupB l = true → l.Nodup
  | [], _ => .nil
  | a :: r, h => by
    obtain ⟨h1, h2⟩ := Bool.and_eq_true_iff.mp (show ((r.all fun b => !Nat.beq a b) && nodupB r) = true from h)
    refine List.nodup_cons.mpr ⟨fun z => ?_, nodupB_ok h2⟩
    have := List.all_eq_true.mp h1 a z
    simp at this
def tabM (g : Addr → Option Obj) (K : PySem.W.Frag) (tf : List He.Defn) : Bool := nodupB (tf.map fun p => (He.cT K p).2) && tf.all fun p => PySem.W.codeHdIn K (He.cT K p).1 (He.cT K p).2 && ((K.lookup (He.cT K p).2).isNone && (match g (He.cT K p).2 with
  | some o => He.emptyTab o
  | none => false))
abbrev AlM : Type := Bool × List He.FnW
def lookM (fa : List Fq) (cs fs : List Str) (fn : List DefQ) (tf : List He.Defn) (g : Addr → Option Obj) (K : PySem.W.Frag) : AlM :=
  ((fa.all fun f => f.ok K) && ((objB K && (kitB cs K && fldsB cs fs K)) && ((fn.all fun d => d.ok K) && tabM g K tf)), fn.map fun d => fnAt K d.ad)
def obsM (fa : List Fq) (cs fs : List Str) (fn : List DefQ) (tf : List He.Defn) (g : Addr → Option Obj) : AlM := allAs g 5 [mainGlobals] fun as => frK (He.frG g as) fun K => lookM fa cs fs fn tf g K
theorem obsM_part (fa : List Fq) (cs fs : List Str) (fn : List DefQ) (tf : List He.Defn) (g : Addr → Option Obj) : obsM fa cs fs fn tf g = lookM fa cs fs fn tf g (partK g) := by
  unfold obsM
  rw [allAs_eq, frK_eq]
  rfl
theorem saysM_of {fa : List Fq} {cs fs : List Str} {fn : List DefQ} {tf : List He.Defn} {h : Heap} (e : obsM fa cs fs fn tf h.get? = (true, fn.map DefQ.val)) : SaysM fa cs fs fn tf h (partK h.get?) := by
  rw [obsM_part] at e
  have e1 := congrArg (fun z : AlM => z.1) e
  have e2 := congrArg (fun z : AlM => z.2) e
  obtain ⟨a1, a2⟩ := Bool.and_eq_true_iff.mp e1
  obtain ⟨a3, a4⟩ := Bool.and_eq_true_iff.mp a2
  obtain ⟨a5, a7⟩ := Bool.and_eq_true_iff.mp a4
  obtain ⟨a8, a6⟩ := Bool.and_eq_true_iff.mp a7
  have key : ∀ p ∈ tf, _ := fun p hp => Bool.and_eq_true_iff.mp (List.all_eq_true.mp a6 p hp)
  refine ⟨a1, a3, a5, e2, fun p hp => (key p hp).1, fun p hp => ?_, fun p hp => ?_, nodupB_ok a8⟩
  · have := (Bool.and_eq_true_iff.mp (key p hp).2).1
    cases q : (partK h.get?).lookup (He.cT (partK h.get?) p).2 with
    | none => rfl
    | some o => rw [q] at this; cases this
  · have := (Bool.and_eq_true_iff.mp (key p hp).2).2
    cases q : h.get? (He.cT (partK h.get?) p).2 with
    | none => rw [q] at this; cases this
    | some o => rw [q] at this; rw [He.emptyTab_eq this]
def hookM (fa : List Fq) (cs fs : List Str) (fn : List DefQ) (tf : List He.Defn) : PySem.W.Hook where
  α := AlM
  obs := fun s => obsM fa cs fs fn tf s.heap.get?
  val := fun _ => (true, fn.map DefQ.val)
  says := fun _ h => ∃ K : PySem.W.Frag, K.In h ∧ SaysM fa cs fs fn tf h K
  of := fun _ _ e => ⟨_, He.frG_in, saysM_of e⟩
  keeps := fun _ _ _ ⟨K, hK, c⟩ k => ⟨K, PySem.W.Frag.In.keeps hK k, ⟨c.f, c.c, c.dk, c.d, c.hd, c.out, fun p hp => k _ _ (c.empty p hp), c.nd⟩⟩
theorem obsM_eq {fa : List Fq} {cs fs : List Str} {fn : List DefQ} {tf : List He.Defn} {g : Addr → Option Obj} {s : Shared} (h : ∀ a, g a = s.heap.get? a) : obsM fa cs fs fn tf g = (hookM fa cs fs fn tf).obs s := by
  have e : g = s.heap.get? := funext h
  rw [e] <;> rfl
section
variable {fa : List Fq} {cs fs : List Str} {fn : List DefQ} {tf : List He.Defn} {h : Heap} {K : PySem.W.Frag}
theorem SaysM.fact (c : SaysM fa cs fs fn tf h K) (i : Nat) {f : Fq} (e : fa[i]? = some f := by rfl) : f.ok K = true := List.all_eq_true.mp c.f f (List.mem_of_getElem? e)
theorem SaysM.def_ (c : SaysM fa cs fs fn tf h K) (i : Nat) {d : DefQ} (e : fn[i]? = some d := by rfl) : d.ad.ok K = true ∧ ∃ fd kws, FunQ K d fd kws := by
  have e2 : (fn.map fun d => fnAt K d.ad)[i]? = (fn.map DefQ.val)[i]? := by rw [c.d]
  rw [List.getElem?_map, List.getElem?_map, e] at e2
  have ok := List.all_eq_true.mp c.dk d (List.mem_of_getElem? e)
  exact ⟨(Bool.and_eq_true_iff.mp ok).1, DefQ.funQ (Option.some.inj e2) ok⟩
theorem all_range {n : Nat} {p : Nat → Bool} (h : (List.range n).all p = true) {i : Nat} (hi : i < n) : p i = true := List.all_eq_true.mp h i (List.mem_range.mpr hi)
/-- the classes are as isinstance and the fields want them -/
theorem kit_ok {T : Tb} (c : SaysM fa cs fs fn tf h K) (hK : T.K = K) (hc : T.cls = fun i => He.ga K (cs.getD i "")) (hn : T.nc = cs.length) : KitOk T := by
  obtain ⟨a, b⟩ := Bool.and_eq_true_iff.mp c.c
  obtain ⟨a1, a2⟩ := Bool.and_eq_true_iff.mp a
  obtain ⟨b1, _⟩ := Bool.and_eq_true_iff.mp b
  have key : ∀ i, i < T.nc → _ := fun i hi => Bool.and_eq_true_iff.mp (all_range b1 (by rw [← hn]; exact hi))
  have k2 : ∀ i, i < T.nc → _ := fun i hi => Bool.and_eq_true_iff.mp (key i hi).2
  have k3 : ∀ i, i < T.nc → _ := fun i hi => Bool.and_eq_true_iff.mp (k2 i hi).2
  have k4 : ∀ i, i < T.nc → _ := fun i hi => Bool.and_eq_true_iff.mp (k3 i hi).1
  refine ⟨fun i j hi hj => ?_, fun i n hi hn' => ?_, fun n i hn' hi => ?_, fun i hi => ?_, fun i hi => ?_, ?_, ?_, fun i hi => ?_⟩
  · rw [hK, hc]; exact of_decide_eq_true (all_range (k4 i hi).2 (by rw [← hn]; exact hj))
  · rw [hK, hc]; exact of_decide_eq_true (Bool.and_eq_true_iff.mp (all_range (k3 i hi).2 hn')).1
  · rw [hK, hc]; exact of_decide_eq_true (Bool.and_eq_true_iff.mp (all_range (k3 i hi).2 hn')).2
  · rw [hK, hc]; exact He.cls_ok (key i hi).1
  · rw [hK, hc]; exact He.eqO_ok (k2 i hi).1
  · rw [hK]; exact He.eqO_ok a1
  · rw [hK]; exact of_decide_eq_true a2
  · rw [hK, hc]; exact of_decide_eq_true (k4 i hi).1
theorem flds_ok {T : Tb} {na : Nat → Nat → Bool} (c : SaysM fa cs fs fn tf h K) (hK : T.K = K) (hc : T.cls = fun i => He.ga K (cs.getD i "")) (hn : T.nc = cs.length) (hf : T.fld = fun i => fs.getD i "") (hm : T.nf = fs.length)
    (hna : ∀ c f, na c f = true → c < cs.length ∧ f < fs.length) : FldOk T na := by
  obtain ⟨_, b⟩ := Bool.and_eq_true_iff.mp c.c
  obtain ⟨_, b2⟩ := Bool.and_eq_true_iff.mp b
  have kt := kit_ok c hK hc hn
  refine ⟨fun i f e => kt.cl i (by rw [hn]; exact (hna i f e).1), fun i f e => ?_, fun i f e => by rw [hm]; exact (hna i f e).2⟩
  show PySem.W.findIn T.K (.ref (T.cls i)) (T.fld f) = some none
  rw [hK, hc, hf]
  exact He.eqO_ok (all_range (all_range b2 (hna i f e).1) (hna i f e).2)
theorem gc_ok {T : Tb} {x : Str} {d : DV} {h' : Heap} (X : K.In h') (G : h'.Ns mainGlobals T.mg) (hK : T.K = K) (e : (Fq.con x d).ok K = true) : GC T x d := by
  have e1 : (match PySem.W.nsIn K mainGlobals x with
    | some (some (.ref a)) => dvB K d (.ref a)
    | _ => false) = true := e
  split at e1
  · rename_i a q
    obtain ⟨v, r1, r2⟩ := dvB_ok e1
    have ev : v = .ref a := by
      cases v <;> first | (cases r1; rfl) | (obtain ⟨_, z⟩ := r1; cases z) | cases r1
    subst ev
    exact ⟨a, PySem.W.mg_of X G q, fun ρ H => r2 T hK ρ H⟩
  · cases e1
end
end FH

namespace FH
open PySem PySem.Spec PyProof.Rows L2

/-! ### the same table over another base, with a function got -/
def Tb.reb (T : Tb) (b : Heap) (a : Addr) (cd : List DV) (cv : List V) (ac : Addr) (aq : Str) : Tb := { T with base := b, act := a, capD := cd, capV := cv, actC := ac, actQ := aq }
section
variable {T : Tb} {b : Heap} {a ac : Addr} {cd : List DV} {cv : List V} {aq : Str} {ρ : List Addr} {H : Hp}
mutual
theorem VR_reb : ∀ {d : DV} {v : V}, VR (T.reb b a cd cv ac aq) ρ H d v ↔ VR T ρ H d v
  | .non, _ => Iff.rfl
  | .bl _, _ => Iff.rfl
  | .int _, _ => Iff.rfl
  | .str _, _ => Iff.rfl
  | .tup xs, v => ⟨fun ⟨p, vs, e, s, r⟩ => ⟨p, vs, e, s, VRs_reb.mp r⟩, fun ⟨p, vs, e, s, r⟩ => ⟨p, vs, e, s, VRs_reb.mpr r⟩⟩
  | .loc _, _ => Iff.rfl
  | .cn _, _ => Iff.rfl
  | .opq, _ => Iff.rfl
  | .act, _ => Iff.rfl
theorem VRs_reb : ∀ {ds : List DV} {vs : List V}, VRs (T.reb b a cd cv ac aq) ρ H ds vs ↔ VRs T ρ H ds vs
  | [], _ => Iff.rfl
  | x :: xs, vs => ⟨fun ⟨v, r, e, h1, h2⟩ => ⟨v, r, e, VR_reb.mp h1, VRs_reb.mp h2⟩, fun ⟨v, r, e, h1, h2⟩ => ⟨v, r, e, VR_reb.mpr h1, VRs_reb.mpr h2⟩⟩
end
theorem KVR_reb : ∀ {ds : List (DV × DV)} {ks : List (Key × V)}, KVR (T.reb b a cd cv ac aq) ρ H ds ks ↔ KVR T ρ H ds ks
  | [], _ => Iff.rfl
  | (k, d) :: r, _ => ⟨fun ⟨k', v, r', e, h1, h2, h3⟩ => ⟨k', v, r', e, h1, VR_reb.mp h2, KVR_reb.mp h3⟩, fun ⟨k', v, r', e, h1, h2, h3⟩ => ⟨k', v, r', e, h1, VR_reb.mpr h2, KVR_reb.mpr h3⟩⟩
theorem KTV_reb : ∀ {ds : List (List DV × DV)} {ks : List (List Key × V)}, KTV (T.reb b a cd cv ac aq) ρ H ds ks ↔ KTV T ρ H ds ks
  | [], _ => Iff.rfl
  | (k, d) :: r, _ => ⟨fun ⟨k', v, r', e, h1, h2, h3⟩ => ⟨k', v, r', e, h1, VR_reb.mp h2, KTV_reb.mp h3⟩, fun ⟨k', v, r', e, h1, h2, h3⟩ => ⟨k', v, r', e, h1, VR_reb.mpr h2, KTV_reb.mpr h3⟩⟩
theorem FR_reb : ∀ {ds : List (Nat × DV)} {fs : List (Str × V)}, FR (T.reb b a cd cv ac aq) ρ H ds fs ↔ FR T ρ H ds fs
  | [], _ => Iff.rfl
  | (k, d) :: r, _ => ⟨fun ⟨v, r', e, h1, h2, h3⟩ => ⟨v, r', e, h1, VR_reb.mp h2, FR_reb.mp h3⟩, fun ⟨v, r', e, h1, h2, h3⟩ => ⟨v, r', e, h1, VR_reb.mpr h2, FR_reb.mpr h3⟩⟩
theorem JR_reb {p : Addr} : ∀ {o : DO}, JR (T.reb b a cd cv ac aq) ρ H p o ↔ JR T ρ H p o
  | .lst false xs => ⟨fun ⟨vs, r, q⟩ => ⟨vs, VRs_reb.mp r, q⟩, fun ⟨vs, r, q⟩ => ⟨vs, VRs_reb.mpr r, q⟩⟩
  | .lst true xs => ⟨fun ⟨vs, o, r, q⟩ => ⟨vs, o, VRs_reb.mp r, q⟩, fun ⟨vs, o, r, q⟩ => ⟨vs, o, VRs_reb.mpr r, q⟩⟩
  | .dK false kvs => ⟨fun ⟨vs, r, q⟩ => ⟨vs, KVR_reb.mp r, q⟩, fun ⟨vs, r, q⟩ => ⟨vs, KVR_reb.mpr r, q⟩⟩
  | .dK true kvs => ⟨fun ⟨vs, o, r, q⟩ => ⟨vs, o, KVR_reb.mp r, q⟩, fun ⟨vs, o, r, q⟩ => ⟨vs, o, KVR_reb.mpr r, q⟩⟩
  | .dT false kvs => ⟨fun ⟨vs, r, q⟩ => ⟨vs, KTV_reb.mp r, q⟩, fun ⟨vs, r, q⟩ => ⟨vs, KTV_reb.mpr r, q⟩⟩
  | .dT true kvs => ⟨fun ⟨vs, o, r, q⟩ => ⟨vs, o, KTV_reb.mp r, q⟩, fun ⟨vs, o, r, q⟩ => ⟨vs, o, KTV_reb.mpr r, q⟩⟩
  | .ins c fs => ⟨fun ⟨dx, gs, r, q⟩ => ⟨dx, gs, FR_reb.mp r, q⟩, fun ⟨dx, gs, r, q⟩ => ⟨dx, gs, FR_reb.mpr r, q⟩⟩
  | .sT ks => Iff.rfl
theorem HR_reb {D : DH} : HR (T.reb b a cd cv ac aq) ρ D H ↔ HR T ρ D H :=
  ⟨fun h => ⟨h.len, h.big, h.nod, fun l p e => let ⟨o, g, j⟩ := h.obj l p e; ⟨o, g, JR_reb.mp j⟩, h.tab⟩, fun h => ⟨h.len, h.big, h.nod, fun l p e => let ⟨o, g, j⟩ := h.obj l p e; ⟨o, g, JR_reb.mpr j⟩, h.tab⟩⟩
theorem pE_reb {r : R DV} {Q : VK} (h : pE T ρ H r Q) : pE (T.reb b a cd cv ac aq) ρ H r Q := by
  cases r with
  | bad => exact h
  | ok d D => exact fun ρ' H' v u h1 h2 => h ρ' H' v u (HR_reb.mp h1) (VR_reb.mp h2)
end

/-! ### the call of a function got -/
/-- what is promised of it: called with one value, it does what the machine g does -/
structure ActOk (T : Tb) (k : Nat) (g : MF) : Prop where
  fn : PySem.W.FnAt T.act T.base
  run : ∀ (A : Around) (outer : List Env) (s : Shared) (H : Hp) (u : Value) (v : V) (Q : VK), Room k A → Env0 T.P T.w T.K T.mg T.base A outer s H → RelV v u →
    (∃ ρ D d, HR T ρ D H ∧ VR T ρ H d v ∧ VRs T ρ H T.capD T.capV ∧ H T.actC = some (LamX.CodeO T.actC T.actQ) ∧ pE T ρ H (g [d] D) Q) →
    codeAny (model T.P T.w) A (.call (.ref T.act) ⟨[u], []⟩) (CR CX0 outer T.P T.w H s Q E0) s
theorem ActOk.mono {T : Tb} {j k : Nat} {g : MF} (o : ActOk T j g) (h : j ≤ k) : ActOk T k g := ⟨o.fn, fun A outer s H u v Q hr => o.run A outer s H u v Q (hr.mono h)⟩
/-- a(e), a the name of slot i, which holds the function got -/
def mAct (i : Nat) (g : MF) (mr : MA) : ME := fun σ D => match lget σ i with
  | some .act => (match mr σ D with
    | .ok [d] D1 => g [d] D1
    | _ => .bad)
  | _ => .bad
theorem fnAt_base {T : Tb} {X : Cx} {k : Nat} {pins : List (Addr × Obj)} {σ : L2.St} {H : Hp} {s : Shared} (c : Cn T k X) (I : Inv X pins σ H s) {f : Addr} (h : PySem.W.FnAt f T.base) : PySem.W.FnAt f s.heap := by
  obtain ⟨oc, od, fd, sl, e⟩ := h
  exact ⟨oc, od, fd, sl, I.bk f _ (by rw [c.base]; exact e)⟩
set_option maxHeartbeats 2000000 in
theorem ex_act {T : Tb} {k j : Nat} {X : Cx} {g : MF} {mr : MA} {x : Str} {e : Expr} {p pos : Pos} (c : Cn T k X) (A : ActOk T j g) (hj : j ≤ k) (i : Nat) (ha : PA X [e] (rA T mr)) (hN : X.N[i]? = some x := by rfl)
    (hv : Vis X.env.scope x := by first | exact Or.inl rfl | exact Or.inr (Or.inl rfl) | exact Or.inr (Or.inr rfl)) (hd : (x == ("__debug__" : Str)) = false := by decide) (hcd : (x == ("__classdict__" : Str)) = false := by decide)
    (h3 : starEach [e] X.env = (false, eval e X.env) :: starEach [] X.env := by rfl) (h4 : ((backTo pos (starEach [] X.env)).any fun x => x.1) = false := by rfl) :
    PE X (.Call (.Name x p) [e] [] pos) (rE T (mAct i g mr)) := by
  refine ⟨fun pins s σ H Q I h => ?_⟩
  obtain ⟨ρ, σd, D, sr, hr, q⟩ := h
  unfold mAct at q
  split at q
  · rename_i e0
    obtain ⟨hs, hcap, hco⟩ := sr.atAct e0
    refine wpAny_Call_Name_kw (thn ((pe_var (pos := p) hN hv hd hcd).run pins s σ H (fun v H1 => v = .ref T.act ∧ H1 = H) I ⟨.ref T.act, hs, rfl, rfl⟩) fun u s1 ⟨v, H1, I1, r1, q1⟩ => ?_)
    obtain ⟨ev, eH⟩ := q1
    subst ev
    rw [eH] at I1
    obtain rfl : u = Value.ref T.act := r1
    have h0 : rA T mr σ H (fun vs H2 => ∃ v ρ D1 d, vs = [v] ∧ HR T ρ D1 H2 ∧ VR T ρ H2 d v ∧ VRs T ρ H2 T.capD T.capV ∧ H2 T.actC = some (LamX.CodeO T.actC T.actQ) ∧ pE T ρ H2 (g [d] D1) Q) := by
      refine ⟨ρ, σd, D, sr, hr, ?_⟩
      split at q
      · rename_i d D1 e1
        rw [e1]
        intro ρ1 H1 vs u1 h1 r1
        obtain ⟨v, r, rfl, r2, r3⟩ := r1
        cases r3
        exact ⟨v, ρ1, D1, d, rfl, h1, r2, hcap.up u1, u1.ext _ _ hco, pE.up u1 q⟩
      · exact q.elim
    refine PySem.W.callWith_F (first := []) (fnAt_base c I1 A.fn) (thn (ha.run pos pins s1 σ H _ I1 h0) fun us s2 ⟨vs, H2, I2, r, w, ρ2, D2, d, ev, t⟩ => ⟨fnAt_base c I2 A.fn, ?_⟩) h3 h4
    subst ev
    obtain ⟨u0, rfl, r1⟩ : ∃ u0, us = [u0] ∧ RelV w u0 := by
      cases r with
      | cons r1 r2 =>
        cases r2
        exact ⟨_, rfl, r1⟩
    show wpAny _ _ (call (.ref T.act) [u0]) _ _ _
    have e0 : Env0 T.P T.w T.K T.mg T.base X.A X.stack s2 H2 := by rw [← c.P, ← c.w, ← c.K, ← c.mg, ← c.base]; exact I2.env0
    have run := A.run X.A X.stack s2 H2 u0 w Q (c.room.mono hj) e0 r1 ⟨ρ2, D2, d, t⟩
    rw [← c.P, ← c.w] at run
    refine wpAny_call (codeAny_mono run fun r s' hq => ?_)
    cases r with
    | error e => exact pass0 pins σ H2 s2 e s' I2 hq
    | ok fl =>
      cases fl with
      | ret u => exact I2.after hq
      | next => exact False.elim hq
      | brk => exact False.elim hq
      | cont => exact False.elim hq
  · exact q.elim

/-! ### a lambda of one parameter -/
/-- the machine of the lambda, from its body's and the values that it has captured -/
def gLam (mb : ME) (cd : List DV) : MF := fun xs D => mb ((xs ++ cd).map some) D
/-- the context of the lambda's body -/
abbrev lamX (T : Tb) (N : List Str) (F : NdefX.NF) (A : Around) (outer : List Env) (s : Shared) (H : Hp) (E : XK) : Cx := Cx.nox (NdefX.ncx CX0 T.P T.w T.K T.mg T.base N F T.act A outer s H E)
theorem sr_lam {T : Tb} {ρ : List Addr} {H : Hp} : ∀ {ds : List DV} {vs : List V}, VRs T ρ H ds vs → SR T ρ H (ds.map some) (vs.map some)
  | [], _, h => by cases h; rfl
  | x :: xs, _, h => by
    obtain ⟨v, r, rfl, h1, h2⟩ := h
    exact ⟨some v, _, rfl, OR.mk h1, sr_lam h2⟩
theorem cellsAt_base {T : Tb} {cl : List (Str × Addr)} {fr : List Str} {ws : List (Option V)} {H : Hp} {s : Shared} (C : NdefX.CellsAt cl fr ws T.base (fun _ => none)) (bs : ∀ b o, T.base.get? b = some o → s.heap.get? b = some o ∧ H b = none) : NdefX.CellsAt cl fr ws s.heap H := by
  refine ⟨C.len, fun y c e => ?_, C.inj, fun i y e => ?_⟩
  · obtain ⟨_, v, o, ho, hd⟩ := C.all y c e
    exact ⟨(bs c o ho).2, v, o, (bs c o ho).1, hd⟩
  · obtain ⟨c, hc, hv⟩ := C.has i y e
    refine ⟨c, hc, fun v ev => ?_⟩
    obtain ⟨u, r, o, ho, hd⟩ := hv v ev
    exact ⟨u, r, o, (bs c o ho).1, hd⟩
set_option maxHeartbeats 2000000 in
theorem lam_act {T : Tb} {k : Nat} {p : Str} {fr : List Str} {params : Arguments} {body : Expr} {scope : Scope} {cl : List (Str × Addr)} {mb : ME}
    (hf : ∃ pm ctv, T.base.get? T.act = some (PySem.W.kla_obj "<lambda>" T.actQ params body scope cl pm T.actC ctv)) (hC : NdefX.CellsAt cl fr (T.capV.map some) T.base (fun _ => none))
    (S : NdefX.NScope (p :: fr) [p] fr scope) (hb : ∀ (pm cv ctv u : Value), bindArgs (PySem.W.kla_fn "<lambda>" T.actQ params body scope cl pm cv ctv) ⟨[u], []⟩ = pure [(p, u)])
    (hbody : ∀ (A : Around) (outer : List Env) (s : Shared) (H : Hp) (E : XK), Cn T k (lamX T (p :: fr) ⟨"<lambda>", T.actQ, params, [], scope, cl, T.actC⟩ A outer s H E) →
      PE (lamX T (p :: fr) ⟨"<lambda>", T.actQ, params, [], scope, cl, T.actC⟩ A outer s H E) body (rE T mb)) : ActOk T (k + 1) (gLam mb T.capD) := by
  obtain ⟨pm, ctv, hf⟩ := hf
  refine ⟨⟨_, _, _, _, hf⟩, fun A outer s H u v Q hr e0 r ⟨ρ, D, d, hh, rd, rc, hc, q⟩ => ?_⟩
  have ho := (e0.bs _ _ hf).1
  have lim : s.heap.NoLimit := e0.mod.nolimit.keeps fun b o e => (e0.bs b o e).1
  refine PySem.W.kla_callFunE hr.depth ho rfl S.co S.gen rfl (NdefX.codeO_at e0.hok hc) ?_
  rw [hb]
  have hp : scope.names.lookup p = some .local := S.par p List.mem_cons_self
  refine wpAny_pure (wpAny_newFunctionEnv S.nocell (fun y hy => by rw [List.mem_singleton.mp hy]; exact hp) (fun h₁ hns hsb => ⟨lim.fresh _ hsb, ?_⟩) S.kind)
  have kp : ∀ b o, s.heap.get? b = some o → h₁.get? b = some o := fun b o e => hsb.extBut b o (Nat.ne_of_lt (Heap.lt_size e)) (Heap.get?_push_of_some _ e)
  have I := NdefX.inv_startN (CX := CX0) (N := p :: fr) (ps := [p]) (F := ⟨"<lambda>", T.actQ, params, [], scope, cl, T.actC⟩) (f := T.act) (E := E0) (tk := s.toks + 1) S hr.hd e0 (vs := [v]) (us := [u]) rfl (.cons r .nil) (cellsAt_base hC e0.bs) hns kp
  have hl : T.capV.length = fr.length := by have := hC.len; rwa [List.length_map] at this
  have es : NdefX.startF (p :: fr) [v] (T.capV.map some) = (v :: T.capV).map some := by
    unfold NdefX.startF
    rw [show (p :: fr).length - [v].length - (T.capV.map some).length = 0 by rw [List.length_map, hl]; simp]
    simp
  have cn : Cn T k (lamX T (p :: fr) ⟨"<lambda>", T.actQ, params, [], scope, cl, T.actC⟩ A outer s H E0) := ⟨rfl, rfl, rfl, rfl, rfl, rfl, S.nd, hr.deeper _, rfl⟩
  have rd' : rE T mb (NdefX.startF (p :: fr) [v] (T.capV.map some)) H Q := by
    rw [es]
    exact ⟨ρ, (d :: T.capD).map some, D, sr_lam (ds := d :: T.capD) ⟨v, _, rfl, rd, rc⟩, hh, q⟩
  refine PySem.W.kla_codeExpr (wpAny_mono ((hbody A outer s H E0 cn).nox.run [] _ _ H Q I rd') (fun v s' hq => ?_) fun e s' hq => hq)
  obtain ⟨w', H', J', rv, q'⟩ := hq
  exact ⟨w', H', J'.os, J'.bare, J'.base, J'.hok, rv, q'⟩

/-! ### a method that gets a function -/
def spL (T : Tb) (h : MF) : Sp := fun vs H Q _ => ∃ v ρ D x, vs = [v, .ref T.act] ∧ HR T ρ D H ∧ VR T ρ H x v ∧ VRs T ρ H T.capD T.capV ∧ H T.actC = some (LamX.CodeO T.actC T.actQ) ∧ pE T ρ H (h [x] D) Q
def mDefL (nr : Nat) (b : MS) : MF := fun xs D => match xs with
  | [x] => (match b (some x :: some .act :: pad nr) D with
    | .rt d D1 => .ok d D1
    | .nx _ D1 => .ok .non D1
    | _ => .bad)
  | _ => .bad
theorem defL_ok {T : Tb} {k : Nat} {x qual : Str} {st : Stmt} {f : Addr} {fd : FuncData} {N ps : List Str} {b : MS} (nr : Nat) (F : L2.Fun T.K x qual st f fd) (sc : FnScope N ps (defScope st)) (hp : ps.length = 2) (hr : N.length = 2 + nr)
    (h : ∀ (cdv : Value) (A : Around) (outer : List Env) (s : Shared) (H : Hp) (E : XK), Cn T k (cxM T N qual st f cdv A outer s H E) → PSs (cxM T N qual st f cdv A outer s H E) (defBody st) (rS T b)) :
    FnOk T.P T.w T.K T.mg T.base CX0 (k + 1) f fd ps (spL T (mDefL nr b)) := by
  refine F.ok sc (fun vs H Q E ⟨v, _, _, _, e, _⟩ => by rw [e, hp]; rfl) (fun cdv A outer s H vs Q E room q => ?_)
  have c : Cn T k (cxM T N qual st f cdv A outer s H E) := ⟨rfl, rfl, rfl, rfl, rfl, rfl, sc.nd, room, rfl⟩
  refine ⟨_, h cdv A outer s H E c, ?_⟩
  obtain ⟨v, ρ, D, x, rfl, hh, rx, rc, hc, p⟩ := q
  have sr : SR T ρ H (some x :: some .act :: pad nr) (L2.start N [v, .ref T.act]) := by
    unfold L2.start
    rw [show N.length - [v, V.ref T.act].length = nr by rw [hr]; simp]
    exact ⟨some v, _, rfl, OR.mk rx, some (.ref T.act), _, rfl, ⟨_, rfl, .inr ⟨rfl, rfl, rc, hc⟩⟩, pad_sr nr⟩
  refine ⟨ρ, _, D, sr, hh, ?_⟩
  unfold mDefL at p
  dsimp only at p
  cases e : b (some x :: some .act :: pad nr) D with
  | rt d D1 => rw [e] at p; exact p
  | nx σ1 D1 => rw [e] at p; exact fun ρ' H' σ' u h' _ => p ρ' H' .non u h' rfl
  | bk σ1 D1 => rw [e] at p; exact p.elim
  | ct σ1 D1 => rw [e] at p; exact p.elim
  | bad => rw [e] at p; exact p.elim

/-! ### o.m(lambda p: body) -/
/-- a def in which lambdas are made: its code object at cc, the table at P, the lambdas' name q -/
structure TabF (T : Tb) (cc P : Addr) (q : Str) : Prop where
  tb : LamX.TabB T.base T.mg cc P
  mem : (P, q) ∈ T.tabs
  one : ∀ p ∈ T.tabs, p.1 = P → p.2 = q
abbrev TabUp (T : Tb) (b : Heap) : Prop := ∀ cc P, LamX.TabB T.base T.mg cc P → LamX.TabB b T.mg cc P
/-- a method m of class number c that gets a function -/
structure MethLAt (T : Tb) (k j : Nat) (c : Nat) (m : Str) (gg : MF → MF) : Prop where
  ex : ∃ f fd ps, Cls T.K (T.cls c) ∧ Meth T.K (T.cls c) m f ∧ L2.Binds T.K fd ps [] ∧ ps.length = 2 ∧ ∀ b a cd cv ac aq, TabUp T b → ∀ g, ActOk (T.reb b a cd cv ac aq) j g →
    FnOk T.P T.w T.K T.mg b CX0 k f fd ps (spL (T.reb b a cd cv ac aq) (gg g))
def capsD (σ : DL) : List Nat → Option (List DV)
  | [] => some []
  | j :: js => (match lget σ j with
    | some d => cond (notAct d) (match capsD σ js with
      | some ds => some (d :: ds)
      | none => none) none
    | none => none)
theorem caps_read {T : Tb} {ρ : List Addr} {H : Hp} {σd : DL} {σ : L2.St} (sr : SR T ρ H σd σ) : ∀ {js : List Nat} {cd : List DV}, capsD σd js = some cd → ∃ cv, VRs T ρ H cd cv ∧ js.map (NdefX.slotAt σ) = cv.map some
  | [], cd, e => by cases e; exact ⟨[], rfl, rfl⟩
  | j :: js, cd, e => by
    unfold capsD at e
    cases e1 : lget σd j with
    | none => rw [e1] at e; cases e
    | some d =>
      rw [e1] at e
      dsimp only at e
      cases na : notAct d with
      | false => rw [na] at e; cases e
      | true =>
        rw [na, cond_true] at e
        cases e2 : capsD σd js with
        | none => rw [e2] at e; cases e
        | some ds =>
          rw [e2] at e
          cases e
          obtain ⟨v, h1, h2⟩ := sr.at e1 na
          obtain ⟨cv, h3, h4⟩ := caps_read sr e2
          refine ⟨v :: cv, ⟨v, cv, rfl, h2, h3⟩, ?_⟩
          rw [List.map_cons, List.map_cons, h4, NdefX.slotAt_of h1]
def mMethL (cn : Nat) (hid : Nat → Bool) (gg : MF → MF) (mb : ME) (js : List Nat) (mo : ME) : ME := fun σ D => match mo σ D with
  | .ok x D1 => (match x with
    | .loc l => (match D1.get l with
      | some (.ins c' fs) => cond (Nat.beq c' cn) (cond (mMeth.noField hid fs) (match capsD σ js with
        | some cd => gg (gLam mb cd) [x] D1
        | none => .bad) .bad) .bad
      | _ => .bad)
    | _ => .bad)
  | .bad => .bad
theorem JR.notbl {T : Tb} {ρ : List Addr} {H : Hp} {a : Addr} {o : DO} (h : JR T ρ H a o) {x : HO} (e : H a = some x) : ∀ ps, x ≠ .tbl ps := by
  intro ps z
  subst z
  cases o with
  | lst fz xs => cases fz with
    | false => obtain ⟨_, _, q⟩ := h; rw [e] at q; cases q
    | true => obtain ⟨_, _, _, q⟩ := h; rw [e] at q; cases q
  | dK fz xs => cases fz with
    | false => obtain ⟨_, _, q⟩ := h; rw [e] at q; cases q
    | true => obtain ⟨_, _, _, q⟩ := h; rw [e] at q; cases q
  | dT fz xs => cases fz with
    | false => obtain ⟨_, _, q⟩ := h; rw [e] at q; cases q
    | true => obtain ⟨_, _, _, q⟩ := h; rw [e] at q; cases q
  | ins c fs => obtain ⟨_, _, _, q⟩ := h; rw [e] at q; cases q
  | sT ks => have q : H a = _ := h; rw [e] at q; unfold SetTO at q; cases q
theorem up_extN {ρ : List Addr} {H H' : Hp} (e : LamX.ExtN H H') : Up ρ H ρ H' :=
  ⟨List.prefix_rfl, fun a vs h => e a _ h (fun ps z => by cases z), fun a o u h => e a _ h (fun ps z => by cases z), fun a f h => e a _ h (fun ps z => by cases z)⟩
theorem HR.extN {T : Tb} {ρ : List Addr} {D : DH} {H H' : Hp} (h : HR T ρ D H) (e : LamX.ExtN H H') (t : LamX.Tabs T.tabs H') : HR T ρ D H' :=
  ⟨h.len, h.big, h.nod, fun l a q => let ⟨o, g, j⟩ := h.obj l a q; ⟨o, g, j.up (up_extN e) fun x z => e a x z (j.notbl z)⟩, t⟩
theorem funFrames_base {h base base' : Heap} : ∀ {l : List Env}, h.FunFrames base l → (∀ x ∈ frs l, base'.get? x = none) → h.FunFrames base' l
  | [], _, _ => trivial
  | env :: rest, ⟨hk, ⟨L, o, hf, _, ho, hd⟩, hr⟩, hb => by
    have hL : frs (env :: rest) = L :: frs rest := by
      show (env :: rest).filterMap (fun x => x.frame) = _
      rw [List.filterMap_cons, hf]
      rfl
    exact ⟨hk, ⟨L, o, hf, hb L (by rw [hL]; exact List.mem_cons_self), ho, hd⟩, funFrames_base hr fun x hx => hb x (by rw [hL]; exact List.mem_cons_of_mem _ hx)⟩
section
variable {T : Tb} {k j1 j2 : Nat} {X : Cx} {cn : Nat} {m p : Str} {gg : MF → MF} {o : Expr} {mo mb : ME} {params : Arguments} {body : Expr} {scope : Scope} {lpos apos pos : Pos} {cc P : Addr} {fr : List Str}
set_option maxHeartbeats 4000000 in
theorem ex_methLam (c : Cn T k X) (hfn : ∀ x, X.fn x = true) (d : MethLAt T j1 (j2 + 1) cn m gg) (hj : j1 ≤ k) (t : TabF T cc P (X.env.qual ++ "<lambda>")) (hcode : X.env.code = .ref cc) (hid : Nat → Bool) (hh : ∀ f, f < T.nf → hid f = false → ¬ T.fld f = m)
    (js : List Nat) (ho : PE X o (rE T mo)) (S : NdefX.NScope (p :: fr) [p] fr scope)
    (hbody : ∀ (b : Heap) (a : Addr) (cd : List DV) (cv : List V) (ac : Addr) (aq : Str), TabUp T b → ∀ (cl : List (Str × Addr)) (A : Around) (outer : List Env) (s : Shared) (H : Hp) (E : XK),
      Cn (T.reb b a cd cv ac aq) j2 (lamX (T.reb b a cd cv ac aq) (p :: fr) ⟨"<lambda>", aq, params, [], scope, cl, ac⟩ A outer s H E) → PE (lamX (T.reb b a cd cv ac aq) (p :: fr) ⟨"<lambda>", aq, params, [], scope, cl, ac⟩ A outer s H E) body (rE (T.reb b a cd cv ac aq) mb))
    (hnd : NdefX.ndefB X.env.scope scope fr = true := by kernel_rfl) (hjs : js.map (fun j => X.N[j]?) = fr.map some := by rfl) (hdef : defaultsOf params X.env = ([], []) := by rfl)
    (hb : ∀ (aq : Str) (cl : List (Str × Addr)) (pm cv ctv u : Value), bindArgs (PySem.W.kla_fn "<lambda>" aq params body scope cl pm cv ctv) ⟨[u], []⟩ = pure [(p, u)] := by intros; rfl)
    (h3 : starEach [.Lambda params body scope lpos] X.env = (false, eval (.Lambda params body scope lpos) X.env) :: starEach [] X.env := by rfl) (h4 : ((backTo pos (starEach [] X.env)).any fun x => x.1) = false := by rfl) {pl : Sem Bool}
    (h5 : eval (.Call (.Attribute o m apos) [.Lambda params body scope lpos] [] pos) X.env = (do
      let ov ← eval o X.env
      standAt apos.atName
      let __x ← holding [ov] (getMethod ov m pl)
      match __x with
        | (f, first) => callWith pos f first (backTo pos (starEach [.Lambda params body scope lpos] X.env)) (backToKw pos (keywordEach [] X.env))) := by rfl) :
    PE X (.Call (.Attribute o m apos) [.Lambda params body scope lpos] [] pos) (rE T (mMethL cn hid gg mb js mo)) := by
  obtain ⟨f, fd, ps, k1, k2, k3, k4, k5⟩ := d.ex
  have k1' : Cls X.K (T.cls cn) := by rw [c.K]; exact k1
  have k2' : Meth X.K (T.cls cn) m f := by rw [c.K]; exact k2
  refine ⟨fun pins s σ H Q I ⟨ρ, σd, D, sr, hr, q⟩ => ?_⟩
  unfold mMethL at q
  cases e1 : mo σd D with
  | bad => rw [e1] at q; exact q.elim
  | ok x D1 =>
    rw [e1] at q
    dsimp only at q
    split at q
    · split at q
      · rename_i l _ c' fs g1
        obtain ⟨q1, qa⟩ := cond_ok q
        obtain ⟨q2, qb⟩ := cond_ok qa
        have := Nat.eq_of_beq_eq_true q1
        subst this
        cases ecd : capsD σd js with
        | none => rw [ecd] at qb; exact qb.elim
        | some cd =>
          rw [ecd] at qb
          dsimp only at qb
          have h0 : rE T mo σ H (fun v H1 => ∃ ρ1, Up ρ H ρ1 H1 ∧ HR T ρ1 D1 H1 ∧ VR T ρ1 H1 (.loc l) v) := ⟨ρ, σd, D, sr, hr, by rw [e1]; exact fun ρ' H' v u h' r' => ⟨ρ', u, h', r'⟩⟩
          refine PySem.W.methodCall_KW (pl := pl) (thn (ho.run pins s σ H _ I h0) fun u s1 ⟨v, H1, I1, rx, ρ1, u1, h1, r1⟩ => ?_) h5
          obtain ⟨a, rfl, hl, dx, gs, rf, hd⟩ := h1.at r1 g1
          obtain rfl : u = Value.ref a := rx
          refine getmeth_ok I1 hd k1' k2' (noField_ok hh rf q2) ?_
          refine PySem.W.callWith_K (first := [.ref a]) (h₀ := X.base) I.ok.mod.kin k2'.kp ?_ h3 h4
          have TB : LamX.TabB X.base X.mg cc P := by rw [c.base, c.mg]; exact t.tb
          have hfree : ∀ y ∈ scope.names, y.2 = .free → X.env.scope.names.lookup y.1 = some .cell ∨ X.env.scope.names.lookup y.1 = some .free := NdefX.ndef_free hnd
          show wpAny _ _ (spliced ((false, eval (.Lambda params body scope lpos) X.env) :: backTo pos (starEach [] X.env))) _ _ s1
          refine Calls.spliced_cons (LamX.lam_make2 (T := T.tabs) I1 TB hcode t.mem t.one h1.tab hdef (fun y hy e => (hfree y hy e).elim (fun z => I1.ok.has _ (.inl z)) fun z => I1.ok.has _ (.inr z)) fun f' c' pm ctv H2 s2 I2 eN T2 hf hfn' hfr hco => ?_)
          refine Calls.spliced_nil ⟨I2.kIn, ?_⟩
          show wpAny _ _ (call (.ref f) [.ref a, .ref f']) _ _ _
          -- the base
          have hc2 := NdefX.cells_of I2 (NdefX.Caps.made I2.ok hfree (NdefX.ndef_fr hnd) hjs)
          have hcap := NdefX.Caps.made I2.ok hfree (NdefX.ndef_fr hnd) hjs
          obtain ⟨cv, rcv, ecv⟩ := caps_read sr ecd
          rw [ecv] at hc2
          have gto : ∀ x ob, s2.heap.get? x = some ob → H2 x = none → x ∉ frs X.stack → (PySem.W.hideAll (hidT s2.heap H2) (frs X.stack)).get? x = some ob := fun x ob h n z => PySem.W.hideAll_get _ (hidT_get h n) z
          have gof : ∀ x ob, (PySem.W.hideAll (hidT s2.heap H2) (frs X.stack)).get? x = some ob → s2.heap.get? x = some ob ∧ H2 x = none := fun x ob h => of_hidT (PySem.W.of_hideAll _ h)
          have e2 := I2.env0
          have kb : ∀ x ob, X.base.get? x = some ob → (PySem.W.hideAll (hidT s2.heap H2) (frs X.stack)).get? x = some ob := fun x ob h => gto x ob (I2.bs x ob h).1 (I2.bs x ob h).2 fun z => by
            have := (e2.funs.mem z).1
            rw [h] at this; cases this
          have nofr : ∀ y ca, (cloFrom X.env.cells scope.names []).lookup y = some ca → ca ∉ frs X.stack := fun y ca h z => by
            have hX := hcap.sub y ca h
            have ge := I2.ok.cab y ca (hfn y) hX
            have no : ca ∉ X.fs := fun hb => by
              obtain ⟨_, ob, hob, _⟩ := I2.ok.funs.mem hb
              exact absurd (Nat.lt_of_lt_of_le (Heap.lt_size hob) ge) (Nat.lt_irrefl _)
            rcases I2.ok.stk with st | ⟨st, sf⟩
            · rw [st] at z; exact no z
            · rw [st] at z
              have hL : frs (X.env :: X.outer) = X.env.locals :: frs X.outer := by
                show (X.env :: X.outer).filterMap (fun x => x.frame) = _
                rw [List.filterMap_cons, sf]
                rfl
              rw [hL] at z
              rcases List.mem_cons.mp z with z | z
              · exact I2.cne y ca hX z
              · exact no z
          have hC : NdefX.CellsAt (cloFrom X.env.cells scope.names []) fr (cv.map some) (PySem.W.hideAll (hidT s2.heap H2) (frs X.stack)) (fun _ => none) := by
            refine ⟨hc2.len, fun y ca e => ?_, hc2.inj, fun i y e => ?_⟩
            · obtain ⟨n, v, ob, hob, hdt⟩ := hc2.all y ca e
              exact ⟨rfl, v, ob, gto ca ob hob n (nofr y ca e), hdt⟩
            · obtain ⟨ca, hca, hv⟩ := hc2.has i y e
              refine ⟨ca, hca, fun v ev => ?_⟩
              obtain ⟨u, r, ob, hob, hdt⟩ := hv v ev
              exact ⟨u, r, ob, gto ca ob hob (hc2.all y ca hca).1 (nofr y ca hca), hdt⟩
          have tup : TabUp T (PySem.W.hideAll (hidT s2.heap H2) (frs X.stack)) := fun cc P z => ⟨z.code.keeps (by rw [← c.base]; exact kb), z.bm.keeps (by rw [← c.base]; exact kb), z.gP⟩
          have act := lam_act (T := T.reb (PySem.W.hideAll (hidT s2.heap H2) (frs X.stack)) f' cd cv c' (X.env.qual ++ "<lambda>")) (mb := mb) (cl := cloFrom X.env.cells scope.names []) ⟨pm, ctv, gto f' _ hf hfn' hfr⟩ hC S (fun pm cv ctv u => hb _ _ pm cv ctv u) (fun A outer s H E cn => hbody _ f' cd cv c' _ tup _ A outer s H E cn)
          have Fk := k5 _ f' cd cv c' (X.env.qual ++ "<lambda>") tup _ act
          have e0 : Env0 T.P T.w T.K T.mg (PySem.W.hideAll (hidT s2.heap H2) (frs X.stack)) X.A X.stack s2 H2 := by
            have md := e2.mod
            rw [← c.P, ← c.w, ← c.K, ← c.mg]
            refine ⟨e2.frames, ⟨md.kin.keeps kb, md.glob.keeps kb, ?_, md.nolimit.keeps kb⟩, gof, Nat.le_of_eq ((PySem.W.hideAll_size _ _).trans (hidT_size _ _)), funFrames_base e2.funs fun x hx => PySem.W.hideAll_none _ hx, e2.frf, e2.hok, e2.bare⟩
            obtain ⟨mb', b1, b2⟩ := md.blt
            exact ⟨mb', b1.keeps kb, b2⟩
          have hbind := k3 s2 [.ref a, .ref f'] (by rw [← c.K]; exact I2.kIn) (by rw [k4]; rfl)
          have u2 := up_extN (ρ := ρ1) eN
          have run := Fk.run X.A X.stack s2 H2 ⟨[.ref a, .ref f'], []⟩ [.ref a, .ref f'] [.ref a, .ref f'] Q E0 (c.room.mono hj) e0 hbind (.cons rfl (.cons rfl .nil))
            ⟨.ref a, ρ1, D1, .loc l, rfl, HR_reb.mpr (h1.extN eN T2), VR_reb.mpr (r1.up u2), VRs_reb.mpr (rcv.up (u1.trans u2)), hco, pE_reb (pE.up (u1.trans u2) qb)⟩
          rw [← c.P, ← c.w] at run
          refine wpAny_call (codeAny_mono run fun r s' hq => ?_)
          cases r with
          | error e => exact pass0 pins σ H2 s2 e s' I2 hq
          | ok fl =>
            cases fl with
            | ret u => exact I2.after hq
            | next => exact False.elim hq
            | brk => exact False.elim hq
            | cont => exact False.elim hq
      · exact q.elim
    · exact q.elim
end
end FH

namespace FH
open PySem PySem.Spec PyProof.Rows L2

/-! ### sets of texts as tracked things -/
theorem setTO_ok {w : World} {P : Program} {H : Hp} {h : Heap} {a : Addr} {ks : List Str} (R : SetT w h a ks) : ObjOk P w H h a (SetTO w a ks) :=
  ⟨R, R.there, fun _ _ p k => p.move k⟩
theorem acc_set {X : Cx} : AccOk X (newSet (.type "set")) (fun a => SetTO X.w a []) := ⟨fun {A E s Q pins σ H} I h =>
  PpSet.newSet_ok (h _ (I.laid (t' := s.toks) (fun b o e => Heap.get?_push_of_some _ e) (Nat.le_refl _) (setTO_ok (SetT.fresh (Heap.get?_push_size _ rfl)))))⟩
def memN (c : List Nat) : List (List Nat) → Bool
  | [] => false
  | d :: r => cond (natsEq c d) true (memN c r)
theorem memN_iff {c : List Nat} : ∀ {ks : List (List Nat)}, memN c ks = true ↔ c ∈ ks
  | [] => by simp [memN]
  | d :: r => by
    unfold memN
    cases e : natsEq c d with
    | true => simp [natsEq_iff.mp e]
    | false =>
      have ne : c ≠ d := fun z => by rw [natsEq_iff.mpr z] at e; cases e
      simp [ne, memN_iff (ks := r)]
def addN (ks : List (List Nat)) (c : List Nat) : List (List Nat) := cond (memN c ks) ks (ks ++ [c])
theorem stN_inj {a b : List Nat} (h : stN a = stN b) : a = b := by simpa using h
theorem addN_ok (ks : List (List Nat)) (c : List Nat) : (addN ks c).map stN = addT (ks.map stN) (stN c) := by
  unfold addN addT
  cases e : memN c ks with
  | true =>
    rw [if_pos (List.mem_map.mpr ⟨c, memN_iff.mp e, rfl⟩)]
    rfl
  | false =>
    rw [if_neg fun z => by
      obtain ⟨d, hd, q⟩ := List.mem_map.mp z
      rw [stN_inj q] at hd
      rw [memN_iff.mpr hd] at e
      cases e]
    simp
/-- found.add(text) of the set numbered l -/
def dSadd (D : DH) (l : Nat) (x : DV) : Option DH := match x with
  | .str c => (match D.get l with
    | some (.sT ks) => cond (Nat.blt ks.length 60) (some (D.put l (.sT (addN ks c)))) none
    | _ => none)
  | _ => none
def uSadd (m : ME) : MU := fun l σ D => match m σ D with
  | .bad => .bad
  | .ok y D1 => (match dSadd D1 l y with
    | none => .bad
    | some D2 => .ok () D2)
def saddC (x : Expr) (D : Addr) (env : Env) : Sem Unit := do
  let v ← eval x env
  standAt x.pos
  let _ ← call (.builtin "set.add") [.ref D, v]
theorem bound60 {n : Nat} (h : n < 60) : n + 1 < scanBound := by
  have : (61 : Nat) ≤ scanBound := by decide
  omega
section
variable {T : Tb} {k : Nat} {X : Cx} {x : Expr} {m : ME} {D : Addr}
theorem un_sadd (c : Cn T k X) (h : PE X x (rE T m)) : KU X (saddC x D X.env) [] (rU T (uSadd m) D) := by
  refine ⟨fun pins s σ H N I q => ?_⟩
  obtain ⟨l, ρ, σd, D0, hl, sr, hr, p⟩ := q
  unfold saddC
  have h0 : rE T m σ H (fun v H1 => ∃ ρ1 y D1, Up ρ H ρ1 H1 ∧ HR T ρ1 D1 H1 ∧ VR T ρ1 H1 y v ∧ m σd D0 = .ok y D1) := by
    refine ⟨ρ, σd, D0, sr, hr, ?_⟩
    cases e1 : m σd D0 with
    | bad => unfold uSadd at p; rw [e1] at p; exact p.elim
    | ok y D1 => exact fun ρ1 H1 v u1 h1 r1 => ⟨ρ1, y, D1, u1, h1, r1, rfl⟩
  refine wpAny_bind (thn (h.run pins s σ H _ I h0) fun z s1 ⟨v, H1, I1, rz, ρ1, y, D1, u1, h1, r1, e1⟩ => wpAny_bind (wpAny_standAt ?_))
  unfold uSadd at p
  rw [e1] at p
  dsimp only at p
  cases e2 : dSadd D1 l y with
  | none => rw [e2] at p; exact p.elim
  | some D2 =>
    rw [e2] at p
    unfold dSadd at e2
    split at e2
    · rename_i cs
      split at e2
      · rename_i ks g
        obtain ⟨c1, e3⟩ := cond_some e2
        cases e3
        cases r1
        obtain ⟨t, rfl⟩ := rz
        obtain ⟨o, g', j⟩ := h1.obj l D (u1.at hl)
        rw [g] at g'; cases g'
        have j : H1 D = some (SetTO T.w D (ks.map stN)) := j
        have R : SetT X.w s1.heap D (ks.map stN) := by rw [c.w]; exact (I1.hok D _ j).1
        refine wpAny_bind (addT_call R (by rw [List.length_map]; exact bound60 (blt_lt c1)) fun h' sb R2 => wpAny_pure ?_)
        rw [← addN_ok] at R2
        have mu : Mut (H1 D) := by rw [j]; trivial
        refine ⟨σ, upd H1 D (SetTO T.w D ((addN ks cs).map stN)), I1.write (e := D) (t' := s1.toks + 1) mu (.inl rfl) (fun b u hb hu => (sb.2 b hb).trans hu) R2.there (by rw [c.w] at R2 ⊢; exact setTO_ok R2), rfl, fun _ _ e => e, ?_⟩
        have nx : ∀ φ, SetTO T.w D (ks.map stN) = .ext φ → NoCode (SetTO T.w D (ks.map stN)) := fun _ _ => setTO_code
        have hp := h1.put (d := .sT (addN ks cs)) (o := SetTO T.w D ((addN ks cs).map stN)) (u1.at hl) j trivial nx upd_same
        exact p _ _ (u1.trans (up_put j trivial nx)) hp
      · cases e2
    · cases e2
end

section
variable {T : Tb} {k : Nat} {X : Cx} {e elt tg iter tg1 iter1 : Expr} {ifs ifs1 : List Expr} {gs : List Comprehension} {scope : Scope} {pos : Pos} {next : Addr → Env → Sem Unit} {vs' is vs : List Nat} {mi : MI} {g : MG} {t : MT} {mu : MU} {m : ME} {d : Nat} {D : Addr}
theorem sT_new {T : Tb} (ρ : List Addr) (H : Hp) (a : Addr) (h : H a = some (SetTO T.w a [])) : JR T ρ H a (.sT []) := h
theorem ex_scN (c : Cn T k X) (own : List (Str × Nat)) (hi : PI X tg iter (rI T mi)) (ok : BlkOk X.N X.env.scope scope own)
    (hg : ∀ (s : Shared) (H : Hp) (C : Addr) (cl : List (Str × Addr)) (fp : List Addr), PG (X.blk s H scope (compEnvC scope cl C X.env) fp) tg (rG T is g))
    (ht : ∀ (s : Shared) (H : Hp) (C : Addr) (cl : List (Str × Addr)) (fp : List Addr), PTs (X.blk s H scope (compEnvC scope cl C X.env) fp) ifs (rT T t))
    (hn : ∀ (s : Shared) (H : Hp) (C : Addr) (cl : List (Str × Addr)) (fp : List Addr) (D : Addr), KU (X.blk s H scope (compEnvC scope cl C X.env) fp) (next D (compEnvC scope cl C X.env)) vs' (rU T mu D))
    (hv : own.map (·.2) = vs := by rfl) (hs : subL is vs = true := by rfl) (hs' : subL vs' vs = true := by rfl)
    (hturn : ∀ it D env, turnIs (.SetComp elt (⟨tg, iter, ifs, 0⟩ :: gs) scope pos) 0 it (.ref D) env tg iter ifs (next D env) := by intros; rfl) (hf : ∀ x : Value, foldedSetIterable iter X.env x = pure x := by intro _; rfl) :
    PE X (.SetComp elt (⟨tg, iter, ifs, 0⟩ :: gs) scope pos) (rE T (mTop (.sT []) mi g t mu vs)) := by
  have cn : CN X (.SetComp elt (⟨tg, iter, ifs, 0⟩ :: gs) scope pos) tg iter ifs gs scope own (newSet (.type "set")) (fun a => SetTO X.w a []) next vs' (rI T mi) (rG T is g) (rT T t) (rU T mu) :=
    ⟨c.calm, c.nd, acc_set, .s _ _ _ _, rfl, hturn, hi, ok, hg, ht, hn, (by rw [show List.map (fun x => x.2) own = vs from hv]; exact subL_ok hs'), hf⟩
  refine PEw (cn.pe (pos' := firstIterPos (⟨tg, iter, ifs, 0⟩ :: gs) pos) (PpSet.eval_SetComp _ _ _ _)) fun σ H Q q => ?_
  have e : List.map (fun x => x.2) own = vs := hv
  rw [e, c.w]
  exact top_read sT_new hs q
theorem un_lastS (c : Cn T k X) (hi : PI X tg iter (rI T mi)) (hg : PG X tg (rG T is g)) (hts : PTs X ifs (rT T t)) (hn : PE X elt (rE T m))
    (he : gs[d]? = some ⟨tg, iter, ifs, 0⟩ := by rfl) (ht : ∀ it, turnIs (.SetComp elt gs scope pos) d it (.ref D) X.env tg iter ifs (saddC elt D X.env) := by intros; unfold FH.turnIs; rfl)
    (hs : subL is vs = true := by rfl) (hf : ∀ x, foldedSetIterable iter X.env x = pure x := by intro _; rfl) : KU X (subC (.SetComp elt gs scope pos) d (.ref D) X.env iter) vs (rU T (mCl mi g t (uSadd m) vs) D) :=
  un_clause (k := k) (fun v s z => by rw [c.xe] at z; exact z) c.calm (.s _ _ _ _) he ht hi hg hts (un_sadd c hn) hs rfl hf
/-- one clause -/
theorem ex_sc (c : Cn T k X) (own : List (Str × Nat)) (hi : PI X tg iter (rI T mi)) (ok : BlkOk X.N X.env.scope scope own)
    (hg : ∀ (s : Shared) (H : Hp) (C : Addr) (cl : List (Str × Addr)) (fp : List Addr), PG (X.blk s H scope (compEnvC scope cl C X.env) fp) tg (rG T is g))
    (ht : ∀ (s : Shared) (H : Hp) (C : Addr) (cl : List (Str × Addr)) (fp : List Addr), PTs (X.blk s H scope (compEnvC scope cl C X.env) fp) ifs (rT T t))
    (hx : ∀ (s : Shared) (H : Hp) (C : Addr) (cl : List (Str × Addr)) (fp : List Addr), PE (X.blk s H scope (compEnvC scope cl C X.env) fp) elt (rE T m))
    (hv : own.map (·.2) = vs := by rfl) (hs : subL is vs = true := by rfl) (hf : ∀ x : Value, foldedSetIterable iter X.env x = pure x := by intro _; rfl) :
    PE X (.SetComp elt [⟨tg, iter, ifs, 0⟩] scope pos) (rE T (mTop (.sT []) mi g t (uSadd m) vs)) :=
  ex_scN (next := fun D env => saddC elt D env) c own hi ok hg ht (fun s H C cl fp D => un_sadd (Cn.blk c s H scope _ fp) (hx s H C cl fp)) hv hs rfl (by intros; unfold turnIs; rfl) hf
/-- several clauses -/
theorem ex_scM (c : Cn T k X) (own : List (Str × Nat)) (hi : PI X tg iter (rI T mi)) (ok : BlkOk X.N X.env.scope scope own)
    (hg : ∀ (s : Shared) (H : Hp) (C : Addr) (cl : List (Str × Addr)) (fp : List Addr), PG (X.blk s H scope (compEnvC scope cl C X.env) fp) tg (rG T is g))
    (ht : ∀ (s : Shared) (H : Hp) (C : Addr) (cl : List (Str × Addr)) (fp : List Addr), PTs (X.blk s H scope (compEnvC scope cl C X.env) fp) ifs (rT T t))
    (hn : ∀ (s : Shared) (H : Hp) (C : Addr) (cl : List (Str × Addr)) (fp : List Addr) (D : Addr), KU (X.blk s H scope (compEnvC scope cl C X.env) fp) (subC (.SetComp elt (⟨tg, iter, ifs, 0⟩ :: ⟨tg1, iter1, ifs1, 0⟩ :: gs) scope pos) 1 (.ref D) (X.blk s H scope (compEnvC scope cl C X.env) fp).env iter1) vs' (rU T mu D))
    (hv : own.map (·.2) = vs := by rfl) (hs : subL is vs = true := by rfl) (hs' : subL vs' vs = true := by rfl) (hf : ∀ x : Value, foldedSetIterable iter X.env x = pure x := by intro _; rfl) :
    PE X (.SetComp elt (⟨tg, iter, ifs, 0⟩ :: ⟨tg1, iter1, ifs1, 0⟩ :: gs) scope pos) (rE T (mTop (.sT []) mi g t mu vs)) :=
  ex_scN (next := fun D env => subC (.SetComp elt (⟨tg, iter, ifs, 0⟩ :: ⟨tg1, iter1, ifs1, 0⟩ :: gs) scope pos) 1 (.ref D) env iter1) c own hi ok hg ht hn hv hs hs' (fun it D env => turn_sub (d := 0) (by unfold turnSub; rfl)) hf
end

/-! ### len, sorted of a set; set(..) of texts -/
def bLenS (xs : List DV) (D : DH) : R DV := match xs with
  | [.loc l] => (match D.get l with
    | some (.sT ks) => .ok (.int (.ofNat ks.length)) D
    | _ => .bad)
  | _ => .bad
def bSortS (xs : List DV) (D : DH) : R DV := match xs with
  | [.loc l] => (match D.get l with
    | some (.sT ks) => cond (Nat.blt ks.length 64) (D.new (.lst false ((sortN ks).map DV.str))) .bad
    | _ => .bad)
  | _ => .bad
/-- the items of a list, a tuple -/
def seqItemsD (D : DH) : DV → Option (List DV)
  | .tup xs => some xs
  | .loc l => (match D.get l with
    | some (.lst _ xs) => some xs
    | _ => none)
  | _ => none
def bSet (xs : List DV) (D : DH) : R DV := match xs with
  | [x] => (match seqItemsD D x with
    | some ys => cond (strsB ys) (cond (Nat.blt ys.length 60) (D.new (.sT ((strsD ys).foldl addN []))) .bad) .bad
    | none => .bad)
  | _ => .bad
theorem one_loc {T : Tb} {ρ : List Addr} {H : Hp} {D : DH} {l : Nat} {ks : List (List Nat)} {vs : List V} (h : HR T ρ D H) (r : VRs T ρ H [.loc l] vs) (g : D.get l = some (.sT ks)) : ∃ a, vs = [.ref a] ∧ H a = some (SetTO T.w a (ks.map stN)) := by
  obtain ⟨v, rfl, r1⟩ := r.one
  obtain ⟨a, rfl, _, j⟩ := h.at r1 g
  exact ⟨a, rfl, j⟩
section
variable {T : Tb} {k : Nat} {X : Cx}
theorem call_lenS (c : Cn T k X) : CallR X (.builtin "len") (rC T bLenS) := by
  intro pins s σ H vs us Q I r ⟨ρ, D, as, h, ra, p⟩
  unfold bLenS at p
  split at p
  · split at p
    · rename_i l _ ks g
      obtain ⟨a, rfl, ha⟩ := one_loc h ra g
      rw [Vals.ref1 r]
      obtain ⟨⟨o, es, ep, t, ho, hex, hd, _, pm, hb, hf, _⟩, _⟩ := (I.hok a _ ha).1
      have sz : es.size = ks.length := by simpa using pm.length_eq
      have fit : (es.size : Int) < 2 ^ 63 := by
        have : scanBound ≤ 2 ^ 62 := by decide
        omega
      refine call_len_set ho hex hd hf fit ⟨.int (.ofNat ks.length), H, (I.tok _), ?_, pE_ok h (d := .int _) rfl p⟩
      rw [sz]
      exact ⟨_, rfl⟩
    · exact p.elim
  · exact p.elim
theorem texts_of {w : World} : ∀ {l : List (Int × Value)}, (∀ e ∈ l, TxE w e) → StrsAre (l.map (·.2)) (l.map fun e => txOf e.2)
  | [], _ => .nil
  | e :: r, g => by
    obtain ⟨x, t, rfl⟩ := g _ List.mem_cons_self
    exact .cons x t (texts_of fun u hu => g u (List.mem_cons_of_mem _ hu))
theorem strs_perm {vs ws : List Value} (pm : vs.Perm ws) : ∀ {xs : List Str}, StrsAre ws xs → ∃ ys, StrsAre vs ys ∧ ys.Perm xs := by
  induction pm with
  | nil => exact fun h => ⟨_, h, .refl _⟩
  | cons x _ ih =>
    intro xs h
    cases h with
    | cons y t h2 =>
      obtain ⟨ys, h3, h4⟩ := ih h2
      exact ⟨y :: ys, .cons y t h3, h4.cons y⟩
  | swap x y l =>
    intro xs h
    cases h with
    | cons a t h2 =>
      cases h2 with
      | cons b u h3 => exact ⟨_, .cons b u (.cons a t h3), .swap a b _⟩
  | trans _ _ ih1 ih2 =>
    intro xs h
    obtain ⟨ys, h3, h4⟩ := ih2 h
    obtain ⟨zs, h5, h6⟩ := ih1 h3
    exact ⟨zs, h5, h6.trans h4⟩
theorem call_sortS (c : Cn T k X) : CallR X (.builtin "sorted") (rC T bSortS) := by
  intro pins s σ H vs us Q I r ⟨ρ, D, as, h, ra, p⟩
  unfold bSortS at p
  split at p
  · split at p
    · rename_i l _ ks g
      obtain ⟨c1, p1⟩ := cond_ok p
      obtain ⟨a, rfl, ha⟩ := one_loc h ra g
      rw [Vals.ref1 r]
      obtain ⟨⟨o, es, ep, t, ho, hex, hd, gt, pm, hb, hf, hr, hl⟩, _⟩ := (I.hok a _ ha).1
      rw [← c.w] at hl
      have hn : (ks.map stN).length = ks.length := List.length_map _
      refine sorted_coll (collect_set (A := X.A.in1) (I.ok.hd c.calm) ⟨o, ho, hex.1, hd⟩ hf hb hr hl fun s1 out k1 z1 g1 o1 po => ?_)
      obtain ⟨ss, h1, h2⟩ := strs_perm po (texts_of gt)
      have h3 : ss.Perm (ks.map stN) := h2.trans pm
      have lss : out.length = ss.length := (StrsAre.length h1)
      refine ⟨ss, h1, by rw [lss, h3.length_eq, hn]; exact blt_lt c1, fun h4 us2 ys e kp hat hy py sy => ?_⟩
      have ep : ys = (sortN ks).map stN := sorted_eq (py.trans h3) sy
      have hN : H s1.heap.objs.size = none := I.hok.fresh z1
      have kk : ∀ b u, s.heap.get? b = some u → h4.get? b = some u := fun b u e => kp b u (k1 b u e)
      have hlen : (ys.map V.str).length ≤ sizeLine := by
        rw [List.length_map, (py.trans h3).length_eq, hn, sizeLine_eq]
        have := blt_lt c1
        omega
      have J : L2.Inv X pins σ (upd H s1.heap.objs.size (.lst (ys.map V.str))) { s with heap := h4, gens := s1.gens, drawn := s1.drawn, toks := s1.toks } :=
        I.call (ch := []) (Un.laid kk z1 hN) (I.hok.laid kk z1 ⟨hlen, us2, e, vals_of_strs hy, hat⟩) (by rw [g1]; exact I.bare) (fun _ z => nomatch z)
      rw [o1]
      refine ⟨.ref _, _, J, rfl, ?_⟩
      rw [ep]
      exact pE_new h p1 hN ⟨_, strN_vrs _, upd_same⟩
    · exact p.elim
  · exact p.elim
theorem setsN_ok : ∀ (xs ks : List (List Nat)), (xs.foldl addN ks).map stN = (xs.map stN).foldl addT (ks.map stN)
  | [], ks => rfl
  | x :: xs, ks => by
    show (xs.foldl addN (addN ks x)).map stN = (xs.map stN).foldl addT (addT (ks.map stN) (stN x))
    rw [setsN_ok xs, addN_ok]
theorem call_setM (c : Cn T k X) : CallR X (.type "set") (rC T bSet) := by
  intro pins s σ H vs us Q I r ⟨ρ, D, as, h, ra, p⟩
  unfold bSet at p
  split at p
  · rename_i x
    obtain ⟨v, rfl, rx⟩ := ra.one
    split at p
    · rename_i ys g
      obtain ⟨c1, p1⟩ := cond_ok p
      obtain ⟨c2, p2⟩ := cond_ok p1
      have hl := blt_lt c2
      have fin : ∀ (a : Addr) (its : List Value), Vals (((strsD ys).map stN).map V.str) its → ∀ (i : Nat) (u : Value), its.toArray[i]? = some u → ∃ x t, ((strsD ys).map stN)[i]? = some x ∧ u = Value.str x t := fun a its rv i u hu => by
        have hs := strs_of_vals rv
        rw [List.getElem?_toArray] at hu
        have li : i < its.length := (List.getElem?_eq_some_iff.mp hu).1
        have ll : (((strsD ys).map stN).map V.str).length = its.length := rv.length
        rw [List.length_map] at ll
        have lx : i < ((strsD ys).map stN).length := by omega
        obtain ⟨w, hw, rw'⟩ := rv.get (i := i) (x := .str (((strsD ys).map stN)[i])) (by rw [List.getElem?_map, List.getElem?_eq_getElem lx]; rfl)
        rw [hu] at hw
        cases hw
        obtain ⟨t, rfl⟩ := rw'
        exact ⟨_, t, List.getElem?_eq_getElem lx, rfl⟩
      have done : ∀ (h' : Heap) (tk : Nat), SetT X.w h' s.heap.objs.size (setsOf ((strsD ys).map stN)) → (∀ b o, s.heap.get? b = some o → h'.get? b = some o) → EP X pins σ Q (.ref s.heap.objs.size) { s with heap := h', toks := tk } := fun h' tk R kp => by
        have e : setsOf ((strsD ys).map stN) = ((strsD ys).foldl addN []).map stN := (setsN_ok (strsD ys) []).symm
        rw [e] at R
        have hN : H s.heap.objs.size = none := I.hok.fresh (Nat.le_refl _)
        refine ⟨.ref _, upd H s.heap.objs.size (SetTO X.w s.heap.objs.size (((strsD ys).foldl addN []).map stN)), I.laid (t' := tk) kp (Nat.le_refl _) (setTO_ok R), rfl, pE_new h p2 hN ?_⟩
        show upd H _ _ _ = _
        rw [upd_same, c.w]
      have lb : ((strsD ys).map stN).length + 1 < scanBound := by
        rw [List.length_map, strsD_len c1]
        exact bound60 hl
      cases x with
      | tup xs =>
        cases g
        obtain ⟨a, ws, rfl, sq, rw1⟩ := rx
        obtain ⟨e1, e2⟩ := strs_ok c1 rw1
        rw [Vals.ref1 r]
        rw [← c.K, e1] at sq
        obtain ⟨its, rv, pt, hz⟩ := I.tuple sq
        refine set_tuple (xs := (strsD ys).map stN) (I.ok.hd c.calm) pt ?_ (fin a its rv) lb done
        rw [List.size_toArray, ← rv.length, List.length_map]
      | loc l =>
        dsimp only [seqItemsD] at g
        split at g
        · rename_i fz xs g2
          cases g
          obtain ⟨a, rfl, _, j⟩ := h.at rx g2
          obtain ⟨ws, rw1, sq⟩ := j.seqL
          obtain ⟨e1, e2⟩ := strs_ok c1 rw1
          rw [Vals.ref1 r]
          rw [← c.K, e1] at sq
          obtain ⟨its, rv, pl, hz⟩ := I.list sq
          refine set_list (xs := (strsD ys).map stN) (I.ok.hd c.calm) pl.isList ?_ (fin a its rv) lb done
          rw [List.size_toArray, ← rv.length, List.length_map]
        · cases g
      | _ => cases g
    · exact p.elim
  · exact p.elim
end
end FH

/-! What the top's facts say def by def, over any base. -/
namespace FH
open PySem PySem.Spec PyProof.Rows L2

section
variable {T : Tb} {b : Heap} {a ac : Addr} {cd : List DV} {cv : List V} {aq : Str}
theorem GC.reb {x : Str} {d : DV} (g : GC T x d) : GC (T.reb b a cd cv ac aq) x d := by
  obtain ⟨p, h, r⟩ := g.ex
  exact ⟨p, h, fun ρ H => VR_reb.mpr (r ρ H)⟩
theorem FldOk.reb {na : Nat → Nat → Bool} (g : FldOk T na) : FldOk (T.reb b a cd cv ac aq) na := ⟨g.cl, g.noat, g.lt⟩
theorem KitOk.reb (g : KitOk T) : KitOk (T.reb b a cd cv ac aq) := ⟨g.cc, g.cb, g.bc, g.cl, g.f1, g.f2, g.f3, g.f4⟩
end
/-- the name that a def's lambdas bear -/
abbrev lamQ (qual : Str) : Str := (qual ++ ".<locals>.") ++ "<lambda>"
/-- a method in which lambdas are made -/
structure TabFm (T : Tb) (c : Nat) (x q : Str) : Prop where
  ex : ∃ cc P, TabF T cc P q ∧ ∀ f, Meth T.K (T.cls c) x f → ∀ oc od osl fd, T.K.lookup f = some ⟨oc, od, .func fd, osl⟩ → fd.code = .ref cc
theorem TabFm.reb {T : Tb} {b : Heap} {a ac : Addr} {cd : List DV} {cv : List V} {aq : Str} {c : Nat} {x q : Str} (g : TabFm T c x q) (up : TabUp T b) : TabFm (T.reb b a cd cv ac aq) c x q := by
  obtain ⟨cc, P, t, h⟩ := g.ex
  exact ⟨cc, P, ⟨up cc P t.tb, t.mem, t.one⟩, h⟩
section
variable {T : Tb} {k c : Nat} {x qual cx q : Str} {st : Stmt} {N ps : List Str} {b : MS}
theorem def_okC {f : Addr} {fd : FuncData} (np nr : Nat) (F : L2.Fun T.K x qual st f fd) (sc : FnScope N ps (defScope st)) (hp : ps.length = np) (hr : N.length = np + nr) {cc : Addr} (hcc : ∀ oc od osl fd, T.K.lookup f = some ⟨oc, od, .func fd, osl⟩ → fd.code = .ref cc)
    (h : ∀ (A : Around) (outer : List Env) (s : Shared) (H : Hp) (E : XK), Cn T k (cxM T N qual st f (.ref cc) A outer s H E) → PSs (cxM T N qual st f (.ref cc) A outer s H E) (defBody st) (rS T b)) :
    FnOk T.P T.w T.K T.mg T.base CX0 (k + 1) f fd ps (spM T np (mDef np nr b)) := by
  obtain ⟨oc, od, kV, doc, pm, an, cdv, ct, osl, rfl, lk, hcd⟩ := F.ex
  have e : cdv = .ref cc := hcc _ _ _ _ lk
  subst e
  refine fn_of lk hcd sc (fun vs H Q E q => q.1.trans hp.symm) fun A outer s H vs Q E room q => ?_
  have c : Cn T k (cxM T N qual st f (.ref cc) A outer s H E) := ⟨rfl, rfl, rfl, rfl, rfl, rfl, sc.nd, room, rfl⟩
  refine ⟨_, (h A outer s H E c).nox, ?_⟩
  obtain ⟨hl, ρ, D, as, hh, ra, p⟩ := q
  unfold mDef at p
  obtain ⟨_, p⟩ := cond_ok p
  have sr : SR T ρ H (startD as nr) (L2.start N vs) := by
    unfold L2.start
    rw [show N.length - vs.length = nr by rw [hr, hl]; omega]
    exact start_sr ra
  refine ⟨ρ, startD as nr, D, sr, hh, ?_⟩
  cases e : b (startD as nr) D with
  | rt d D1 => rw [e] at p; exact p
  | nx σ1 D1 => rw [e] at p; exact fun ρ' H' σ' u h' _ => p ρ' H' .non u h' rfl
  | bk σ1 D1 => rw [e] at p; exact p.elim
  | ct σ1 D1 => rw [e] at p; exact p.elim
  | bad => rw [e] at p; exact p.elim
theorem MtF.atC (d : MtF T c x qual st ps) (tb : TabFm T c x q) (np nr : Nat) (sc : FnScope N ps (defScope st)) (hp : ps.length = np) (hr : N.length = np + nr)
    (h : ∀ (cc P : Addr), TabF T cc P q → ∀ (f : Addr) (A : Around) (outer : List Env) (s : Shared) (H : Hp) (E : XK), Cn T k (cxM T N qual st f (.ref cc) A outer s H E) → PSs (cxM T N qual st f (.ref cc) A outer s H E) (defBody st) (rS T b)) :
    MethAt T (k + 1) c x np (mDef np nr b) := by
  obtain ⟨f, fd, F, cl, m, bi⟩ := d.ex
  obtain ⟨cc, P, t, hcc⟩ := tb.ex
  exact ⟨f, fd, ps, cl, m, bi, def_okC np nr F sc hp hr (hcc f m) (h cc P t f)⟩
/-- a method that gets a function -/
theorem MtF.atL {gb : MF → MS} {j : Nat} (d : MtF T c x qual st ps) (nr : Nat) (sc : FnScope N ps (defScope st)) (hp : ps.length = 2) (hr : N.length = 2 + nr)
    (h : ∀ (b : Heap) (a : Addr) (cd : List DV) (cv : List V) (ac : Addr) (aq : Str), TabUp T b → ∀ (g : MF), ActOk (T.reb b a cd cv ac aq) j g → ∀ (f : Addr) (cdv : Value) (A : Around) (outer : List Env) (s : Shared) (H : Hp) (E : XK),
      Cn (T.reb b a cd cv ac aq) k (cxM (T.reb b a cd cv ac aq) N qual st f cdv A outer s H E) → PSs (cxM (T.reb b a cd cv ac aq) N qual st f cdv A outer s H E) (defBody st) (rS (T.reb b a cd cv ac aq) (gb g))) :
    MethLAt T (k + 1) j c x (fun g => mDefL nr (gb g)) := by
  obtain ⟨f, fd, F, cl, m, bi⟩ := d.ex
  exact ⟨f, fd, ps, cl, m, bi, hp, fun b a cd cv ac aq up g A => defL_ok (T := T.reb b a cd cv ac aq) nr F sc hp hr (h b a cd cv ac aq up g A f)⟩
theorem DF.bad (d : DF T x qual st ps) (np : Nat) : DefAt T k x np badF := by
  obtain ⟨f, fd, F, m, bi⟩ := d.ex
  exact ⟨f, fd, ps, m, F.kp, bi, fn_bad⟩
theorem MtF.bad (d : MtF T c x qual st ps) (np : Nat) : MethAt T k c x np badF := by
  obtain ⟨f, fd, F, cl, m, bi⟩ := d.ex
  exact ⟨f, fd, ps, cl, m, bi, fn_bad⟩
theorem PrF.bad (d : PrF T c x qual st ps) : PropAt T k c x badF := by
  obtain ⟨pr, f, fd, F, cl, m, bi⟩ := d.ex
  exact ⟨pr, f, fd, ps, cl, m, bi, fn_bad⟩
theorem InF.bad (d : InF T c cx x qual st ps) (np : Nat) : MakeAt T k cx c np badF := by
  obtain ⟨f, fd, F, m, mk, bi⟩ := d.ex
  exact ⟨f, fd, ps, m, mk, bi, fn_bad⟩
end
/-- the __init__ of class number c with keyword-only parameters -/
structure InQ (T : Tb) (c : Nat) (cx : Str) (d : DefQ) : Prop where
  ex : ∃ fd kws, FunQ T.K d fd kws ∧ T.mg cx = some (.ref (T.cls c)) ∧ Mk T.K (T.cls c) (d.ad.at T.K)
theorem InQ.reb {T : Tb} {b : Heap} {a ac : Addr} {cd : List DV} {cv : List V} {aq : Str} {c : Nat} {cx : Str} {d : DefQ} (g : InQ T c cx d) : InQ (T.reb b a cd cv ac aq) c cx d := ⟨g.ex⟩
theorem def_okQ {T : Tb} {k : Nat} {d : DefQ} {fd : FuncData} {kws : List (Str × V)} {N ps : List Str} {b : MS} (np nr : Nat) (F : FunQ T.K d fd kws) (sc : FnScope N ps (defScope d.st)) (hp : ps.length = np) (hr : N.length = np + nr)
    (h : ∀ (f : Addr) (cdv : Value) (A : Around) (outer : List Env) (s : Shared) (H : Hp) (E : XK), Cn T k (cxM T N d.qual d.st f cdv A outer s H E) → PSs (cxM T N d.qual d.st f cdv A outer s H E) (defBody d.st) (rS T b)) :
    FnOk T.P T.w T.K T.mg T.base CX0 (k + 1) (d.ad.at T.K) fd ps (spM T np (mDef np nr b)) := def_ok np nr F.fun_ sc hp hr (h _)
/-- what a call with keywords of such a class binds -/
structure KwQ (T : Tb) (fd : FuncData) (ps : List Str) (n : Nat) (ks : List Str) (ws : List Wh) : Prop where
  ex : ∃ gu gV, KBn T.K fd ps n ks gu gV ∧ ∀ ρ H ds es vs zs xs, ds.length = n → es.length = ks.length → VRs T ρ H ds vs → VRs T ρ H es zs → whD ds es ws = some xs → VRs T ρ H xs (gV vs zs)
theorem InQ.at {T : Tb} {k c : Nat} {cx : Str} {d : DefQ} {ps ks : List Str} {n np : Nat} {ws : List Wh} {g : MF} (i : InQ T c cx d) (hk : ∀ fd kws, FunQ T.K d fd kws → KwQ T fd ps n ks ws) (hf : ∀ fd kws, FunQ T.K d fd kws → FnOk T.P T.w T.K T.mg T.base CX0 k (d.ad.at T.K) fd ps (spM T np g)) :
    MakeKAt T k cx c n ks np ws g := by
  obtain ⟨fd, kws, F, m, mk⟩ := i.ex
  obtain ⟨gu, gV, kb, r⟩ := (hk fd kws F).ex
  exact ⟨_, fd, ps, gu, gV, m, mk, kb, hf fd kws F, r⟩
theorem zip_of_names : ∀ {kws : List (Str × V)} {ns : List Str}, kws.map (·.1) = ns → ∃ vs, kws = ns.zip vs ∧ vs.length = ns.length
  | [], _, h => by subst h; exact ⟨[], rfl, rfl⟩
  | (n, v) :: r, _, h => by
    subst h
    obtain ⟨vs, e, l⟩ := zip_of_names (kws := r) rfl
    exact ⟨v :: vs, by rw [List.map_cons, List.zip_cons_cons, ← e], by simp [l]⟩

/-! ### the facts, from what the head has told -/
section
variable {fa : List Fq} {cs fs : List Str} {fn : List DefQ} {tf : List He.Defn} {h : Heap} {T : Tb} {k c : Nat} {x cx : Str} {d : DefQ} {ps : List Str}
theorem df_of (s : SaysM fa cs fs fn tf h T.K) (X : T.K.In h) (G : h.Ns mainGlobals T.mg) (i : Nat) (e : fn[i]? = some d) (ha : d.ad = .glo x)
    (hb : ∀ (kV doc pm : Value) (an : Option Addr) (cdv ct : Value) (us : List Value), us.length = ps.length → bindArgs (PySem.W.fnOf d.name d.qual (defArgs d.st) (defBody d.st) (defScope d.st) .none kV doc pm an cdv ct) ⟨us, []⟩ = pure (ps.zip us))
    (hn : d.name = x) : DF T x d.qual d.st ps := by
  obtain ⟨ok, fd, kws, F⟩ := s.def_ i e
  subst hn
  refine ⟨d.ad.at T.K, fd, F.fun_, ?_, ?_⟩
  · rw [ha] at ok ⊢
    exact He.glo_ok X G ok
  · exact bind_of F.fun_ hb
where
  bind_of {K : PySem.W.Frag} {x q : Str} {st : Stmt} {f : Addr} {fd : FuncData} {ps : List Str} (F : L2.Fun K x q st f fd)
    (hb : ∀ (kV doc pm : Value) (an : Option Addr) (cdv ct : Value) (us : List Value), us.length = ps.length → bindArgs (PySem.W.fnOf x q (defArgs st) (defBody st) (defScope st) .none kV doc pm an cdv ct) ⟨us, []⟩ = pure (ps.zip us)) : L2.Binds K fd ps [] := by
    obtain ⟨oc, od, kV, doc, pm, an, cdv, ct, osl, rfl, _, _⟩ := F.ex
    exact Binds.all fun us hl => hb kV doc pm an cdv ct us hl
theorem mt_of (s : SaysM fa cs fs fn tf h T.K) (kt : KitOk T) (hc : c < T.nc) (hT : T.cls c = He.ga T.K cx) (i : Nat) (e : fn[i]? = some d) (ha : d.ad = .mth cx x)
    (hb : ∀ (kV doc pm : Value) (an : Option Addr) (cdv ct : Value) (us : List Value), us.length = ps.length → bindArgs (PySem.W.fnOf d.name d.qual (defArgs d.st) (defBody d.st) (defScope d.st) .none kV doc pm an cdv ct) ⟨us, []⟩ = pure (ps.zip us))
    (hn : d.name = x) : MtF T c x d.qual d.st ps := by
  obtain ⟨ok, fd, kws, F⟩ := s.def_ i e
  subst hn
  refine ⟨d.ad.at T.K, fd, F.fun_, kt.cl c hc, ?_, df_of.bind_of F.fun_ hb⟩
  rw [ha] at ok ⊢
  rw [hT]
  exact He.meth_ok ok
theorem pr_of (s : SaysM fa cs fs fn tf h T.K) (kt : KitOk T) (hc : c < T.nc) (hT : T.cls c = He.ga T.K cx) (i : Nat) (e : fn[i]? = some d) (ha : d.ad = .prp cx x)
    (hb : ∀ (kV doc pm : Value) (an : Option Addr) (cdv ct : Value) (us : List Value), us.length = ps.length → bindArgs (PySem.W.fnOf d.name d.qual (defArgs d.st) (defBody d.st) (defScope d.st) .none kV doc pm an cdv ct) ⟨us, []⟩ = pure (ps.zip us))
    (hn : d.name = x) : PrF T c x d.qual d.st ps := by
  obtain ⟨ok, fd, kws, F⟩ := s.def_ i e
  subst hn
  refine ⟨He.ma T.K (He.ga T.K cx) d.name, d.ad.at T.K, fd, F.fun_, kt.cl c hc, ?_, df_of.bind_of F.fun_ hb⟩
  rw [ha] at ok ⊢
  rw [hT]
  exact prop_of ok
theorem in_of (s : SaysM fa cs fs fn tf h T.K) (X : T.K.In h) (G : h.Ns mainGlobals T.mg) (hT : T.cls c = He.ga T.K cx) (i j l : Nat) (e : fn[i]? = some d) (ha : d.ad = .mth cx "__init__") (hg : fa[j]? = some (.he (.glo cx))) (hm : fa[l]? = some (.he (.mkr cx)))
    (hb : ∀ (kV doc pm : Value) (an : Option Addr) (cdv ct : Value) (us : List Value), us.length = ps.length → bindArgs (PySem.W.fnOf d.name d.qual (defArgs d.st) (defBody d.st) (defScope d.st) .none kV doc pm an cdv ct) ⟨us, []⟩ = pure (ps.zip us))
    (hn : d.name = "__init__") : InF T c cx "__init__" d.qual d.st ps := by
  obtain ⟨ok, fd, kws, F⟩ := s.def_ i e
  have hg := s.fact j hg
  have hm := s.fact l hm
  have F1 := F.fun_
  rw [hn] at F1
  refine ⟨d.ad.at T.K, fd, F1, ?_, ?_, df_of.bind_of F.fun_ hb⟩
  · rw [hT]; exact He.glo_ok X G hg
  · rw [hT, ha]; exact He.mkr_ok hm
theorem inQ_of (s : SaysM fa cs fs fn tf h T.K) (X : T.K.In h) (G : h.Ns mainGlobals T.mg) (hT : T.cls c = He.ga T.K cx) (i j l : Nat) (e : fn[i]? = some d) (ha : d.ad = .mth cx "__init__") (hg : fa[j]? = some (.he (.glo cx))) (hm : fa[l]? = some (.he (.mkr cx))) : InQ T c cx d := by
  obtain ⟨ok, fd, kws, F⟩ := s.def_ i e
  have hg := s.fact j hg
  have hm := s.fact l hm
  refine ⟨fd, kws, F, ?_, ?_⟩
  · rw [hT]; exact He.glo_ok X G hg
  · rw [hT, ha]; exact He.mkr_ok hm
/-- the tables, the lambdas' names -/
def tabsOf (tf : List He.Defn) (qs : List Str) (K : PySem.W.Frag) : List (Addr × Str) := List.zipWith (fun p q => ((He.cT K p).2, q)) tf qs
theorem tabm_of {qs : List Str} {q : Str} (s : SaysM fa cs fs fn tf h T.K) (hT : T.cls c = He.ga T.K cx) (ht : T.tabs = tabsOf tf qs T.K) (hb : ∀ p ∈ tf, LamX.TabB T.base T.mg (He.cT T.K p).1 (He.cT T.K p).2) (i j : Nat) (e : tf[i]? = some (cx, some x))
    (eq : qs[i]? = some q) (ej : fn[j]? = some d) (ha : d.ad = .mth cx x) : TabFm T c x q := by
  have hm := List.mem_of_getElem? e
  refine ⟨(He.cT T.K (cx, some x)).1, (He.cT T.K (cx, some x)).2, ⟨hb _ hm, ?_, fun p hp hq => ?_⟩, fun f m oc od osl fd lk => ?_⟩
  · rw [ht]
    refine List.mem_of_getElem? (i := i) ?_
    unfold tabsOf
    rw [List.getElem?_zipWith, e, eq]
  · rw [ht] at hp
    obtain ⟨l, hl⟩ := List.mem_iff_getElem?.mp hp
    unfold tabsOf at hl
    rw [List.getElem?_zipWith] at hl
    cases e1 : tf[l]? with
    | none => rw [e1] at hl; cases hl
    | some p1 =>
      cases e2 : qs[l]? with
      | none => rw [e1, e2] at hl; cases hl
      | some q1 =>
        rw [e1, e2] at hl
        cases hl
        have g1 : (tf.map fun p => (He.cT T.K p).2)[l]? = some (He.cT T.K p1).2 := by rw [List.getElem?_map, e1]; rfl
        have g2 : (tf.map fun p => (He.cT T.K p).2)[i]? = some (He.cT T.K (cx, some x)).2 := by rw [List.getElem?_map, e]; rfl
        have hq : (He.cT T.K p1).2 = (He.cT T.K (cx, some x)).2 := hq
        rw [hq] at g1
        obtain ⟨l1, w1⟩ := List.getElem?_eq_some_iff.mp g1
        obtain ⟨l2, w2⟩ := List.getElem?_eq_some_iff.mp g2
        have li : l = i := (List.getElem_inj s.nd).mp (w1.trans w2.symm)
        subst li
        rw [eq] at e2
        exact (Option.some.inj e2).symm
  · obtain ⟨ok, fd', kws, F⟩ := s.def_ j ej
    obtain ⟨oc', od', dV, kV, doc, pm, an, cdv, ct, osl', rfl, lk', hcd, _, _⟩ := F.fn.ex
    have hf : He.ma T.K (He.ga T.K cx) x = f := by
      have z := m.at_
      rw [hT] at z
      unfold He.ma
      rw [z]
    rw [ha] at lk'
    have lk2 := (show T.K.lookup (He.ma T.K (He.ga T.K cx) x) = _ from lk')
    rw [hf, lk] at lk2
    cases lk2
    obtain ⟨c0, rfl⟩ := He.codeIn_ref hcd
    refine congrArg Value.ref ?_
    exact (He.codeOf_eq (p := (cx, some x)) (by show T.K.lookup (He.ma T.K (He.ga T.K cx) x) = _; rw [hf]; exact lk) rfl).symm
theorem free_of (s : SaysM fa cs fs fn tf h T.K) (X : T.K.In h) (G : h.Ns mainGlobals T.mg) (i : Nat) (e : fa[i]? = some (.he (.free x))) : T.mg x = none := He.free_ok X G (s.fact i e)
theorem glo_of (s : SaysM fa cs fs fn tf h T.K) (X : T.K.In h) (G : h.Ns mainGlobals T.mg) (hT : T.cls c = He.ga T.K x) (i : Nat) (e : fa[i]? = some (.he (.glo x))) : T.mg x = some (.ref (T.cls c)) := by
  rw [hT]; exact He.glo_ok X G (s.fact i e)
theorem con_of (s : SaysM fa cs fs fn tf h T.K) (X : T.K.In h) (G : h.Ns mainGlobals T.mg) {dv : DV} (i : Nat) (e : fa[i]? = some (.con x dv)) : GC T x dv := gc_ok (K := T.K) X G rfl (s.fact i e)
end
theorem cond_true_both {a b : Bool} (h : cond a b false = true) : a = true ∧ b = true := by
  cases a with
  | true => exact ⟨rfl, h⟩
  | false => cases h
theorem tabs_mem {tf : List He.Defn} {qs : List Str} {K : PySem.W.Frag} {l : Nat} {p : Addr × Str} (h : (tabsOf tf qs K)[l]? = some p) : ∃ r ∈ tf, p.1 = (He.cT K r).2 := by
  unfold tabsOf at h
  rw [List.getElem?_zipWith] at h
  cases e1 : tf[l]? with
  | none => rw [e1] at h; cases h
  | some r =>
    rw [e1] at h
    cases e2 : qs[l]? with
    | none => rw [e2] at h; cases h
    | some q =>
      rw [e2] at h
      cases h
      exact ⟨r, List.mem_of_getElem? e1, rfl⟩
theorem spM_reb {T : Tb} {b : Heap} {a ac : Addr} {cd : List DV} {cv : List V} {aq : Str} {np : Nat} {f : MF} {vs : List V} {H : Hp} {Q : VK} {E : XK} (h : spM T np f vs H Q E) : spM (T.reb b a cd cv ac aq) np f vs H Q E := by
  obtain ⟨e, ρ, D, as, h1, h2, h3⟩ := h
  exact ⟨e, ρ, D, as, HR_reb.mpr h1, VRs_reb.mpr h2, pE_reb h3⟩
end FH

set_option maxHeartbeats 4000000
namespace FHP
open PySem PySem.Spec PyProof.Rows L2 FH
def top (i : Nat) : Stmt := PySem.Challenge.pw_framehistory_k09_promises.main.body.getD i (.Pass ⟨0, 0, 0, 0⟩)
def naM (c f : Nat) : Bool := cond (Nat.blt c 5) (Nat.blt f 29) false
abbrev s0 : Stmt := top 0
abbrev s1 : Stmt := top 2
abbrev s2 : Stmt := top 3
abbrev s3 : Stmt := top 4
abbrev s4 : Stmt := top 5
abbrev s5 : Stmt := top 6
abbrev s6 : Stmt := top 7
abbrev s7 : Stmt := top 9
abbrev s8 : Stmt := inClass (top 10) 0
abbrev s9 : Stmt := inClass (top 10) 1
abbrev s10 : Stmt := inClass (top 10) 2
abbrev s11 : Stmt := inClass (top 10) 3
abbrev s12 : Stmt := inClass (top 10) 4
abbrev s13 : Stmt := inClass (top 10) 5
abbrev s14 : Stmt := inClass (top 10) 6
abbrev s15 : Stmt := inClass (top 10) 7
abbrev s16 : Stmt := inClass (top 10) 8
abbrev s17 : Stmt := inClass (top 10) 9
abbrev s18 : Stmt := inClass (top 10) 10
abbrev s19 : Stmt := inClass (top 10) 11
abbrev s20 : Stmt := inClass (top 10) 12
abbrev s21 : Stmt := inClass (top 10) 13
abbrev s22 : Stmt := inClass (top 10) 14
abbrev s23 : Stmt := inClass (top 10) 15
abbrev s24 : Stmt := inClass (top 10) 16
abbrev s25 : Stmt := inClass (top 10) 17
abbrev s26 : Stmt := inClass (top 10) 18
abbrev s27 : Stmt := inClass (top 10) 19
abbrev s28 : Stmt := inClass (top 10) 20
abbrev s29 : Stmt := inClass (top 10) 21
abbrev s30 : Stmt := inClass (top 10) 22
abbrev s31 : Stmt := inClass (top 10) 23
abbrev s32 : Stmt := inClass (top 21) 0
abbrev s33 : Stmt := inClass (top 21) 1
abbrev s34 : Stmt := inClass (top 21) 2
abbrev s35 : Stmt := inClass (top 21) 3
abbrev s36 : Stmt := inClass (top 21) 4
abbrev s37 : Stmt := inClass (top 21) 5
abbrev s38 : Stmt := inClass (top 21) 6
abbrev s39 : Stmt := inClass (top 21) 7
abbrev s40 : Stmt := inClass (top 21) 8
abbrev s41 : Stmt := inClass (top 21) 9
abbrev s42 : Stmt := inClass (top 21) 10
abbrev s43 : Stmt := inClass (top 21) 11
abbrev s44 : Stmt := inClass (top 21) 12
abbrev s45 : Stmt := inClass (top 21) 13
abbrev s46 : Stmt := inClass (top 21) 14
abbrev s47 : Stmt := top 22
abbrev s48 : Stmt := top 23
abbrev s49 : Stmt := top 24
abbrev s50 : Stmt := top 25
abbrev s51 : Stmt := top 26
abbrev s52 : Stmt := top 27
abbrev s53 : Stmt := top 28
abbrev s54 : Stmt := top 29
abbrev s55 : Stmt := top 30
abbrev s56 : Stmt := top 31
abbrev s57 : Stmt := top 32
abbrev s58 : Stmt := top 33
abbrev s59 : Stmt := top 35
abbrev s60 : Stmt := top 36
abbrev s61 : Stmt := top 37
abbrev s62 : Stmt := top 38
abbrev s63 : Stmt := top 39
abbrev s64 : Stmt := top 41
abbrev s65 : Stmt := top 42
abbrev s66 : Stmt := top 43
abbrev s67 : Stmt := top 44
abbrev s68 : Stmt := top 45
abbrev s69 : Stmt := top 46
abbrev s70 : Stmt := top 47
abbrev s71 : Stmt := inClass (top 48) 0
abbrev s72 : Stmt := inClass (top 48) 1
abbrev s73 : Stmt := inClass (top 48) 2
abbrev s74 : Stmt := inClass (top 48) 3
abbrev s75 : Stmt := inClass (top 48) 4
abbrev s76 : Stmt := top 50
abbrev s77 : Stmt := inClass (top 51) 0
abbrev s78 : Stmt := inClass (top 51) 1
abbrev s79 : Stmt := inClass (top 51) 2
abbrev s80 : Stmt := inClass (top 51) 3
abbrev s81 : Stmt := inClass (top 51) 4
abbrev s82 : Stmt := inClass (top 51) 5
abbrev s83 : Stmt := inClass (top 51) 6
abbrev s84 : Stmt := inClass (top 51) 7
abbrev s85 : Stmt := inClass (top 51) 8
abbrev s86 : Stmt := inClass (top 51) 9
abbrev s87 : Stmt := top 52
abbrev s88 : Stmt := top 55
abbrev s89 : Stmt := inClass (top 56) 0
abbrev s90 : Stmt := inClass (top 56) 1
abbrev s91 : Stmt := inClass (top 56) 2
abbrev s92 : Stmt := inClass (top 56) 3
abbrev s93 : Stmt := inClass (top 56) 4
abbrev s94 : Stmt := inClass (top 56) 5
abbrev s95 : Stmt := inClass (top 56) 6
abbrev s96 : Stmt := inClass (top 56) 7
abbrev s97 : Stmt := inClass (top 56) 8
abbrev s98 : Stmt := inClass (top 56) 9
abbrev s99 : Stmt := inClass (top 56) 10
abbrev s100 : Stmt := inClass (top 56) 11
abbrev s101 : Stmt := inClass (top 56) 12
abbrev s102 : Stmt := inClass (top 56) 13
abbrev s103 : Stmt := inClass (top 56) 14
abbrev s104 : Stmt := top 57
abbrev s105 : Stmt := top 58
abbrev s106 : Stmt := top 60
abbrev s107 : Stmt := top 61
abbrev s108 : Stmt := top 62
abbrev s109 : Stmt := top 64
abbrev s110 : Stmt := top 65
abbrev s111 : Stmt := top 66
abbrev s112 : Stmt := top 67
abbrev s113 : Stmt := top 68
abbrev s114 : Stmt := top 69
abbrev s115 : Stmt := top 70
abbrev s116 : Stmt := top 71
abbrev s117 : Stmt := top 73
abbrev s118 : Stmt := top 74
abbrev s119 : Stmt := top 75
abbrev s120 : Stmt := top 76
abbrev s121 : Stmt := top 77
abbrev s122 : Stmt := top 78
def dq0 : DefQ := ⟨.glo "_wall", "_wall", "_wall", s0, []⟩
def dq1 : DefQ := ⟨.glo "shown_entry", "shown_entry", "shown_entry", s1, []⟩
def dq2 : DefQ := ⟨.glo "pruned", "pruned", "pruned", s2, []⟩
def dq3 : DefQ := ⟨.glo "cut_off", "cut_off", "cut_off", s3, []⟩
def dq4 : DefQ := ⟨.glo "shifted_step", "shifted_step", "shifted_step", s4, []⟩
def dq5 : DefQ := ⟨.glo "shifted", "shifted", "shifted", s5, []⟩
def dq6 : DefQ := ⟨.glo "without_states", "without_states", "without_states", s6, []⟩
def dq7 : DefQ := ⟨.glo "first_browser", "first_browser", "first_browser", s7, []⟩
def dq8 : DefQ := ⟨.mth "Browser" "__init__", "__init__", "Browser.__init__", s8, []⟩
def dq9 : DefQ := ⟨.mth "Browser" "after", "after", "Browser.after", s9, []⟩
def dq10 : DefQ := ⟨.mth "Browser" "perform", "perform", "Browser.perform", s10, []⟩
def dq11 : DefQ := ⟨.mth "Browser" "step_counts", "step_counts", "Browser.step_counts", s11, []⟩
def dq12 : DefQ := ⟨.mth "Browser" "view", "view", "Browser.view", s12, []⟩
def dq13 : DefQ := ⟨.mth "Browser" "load", "load", "Browser.load", s13, []⟩
def dq14 : DefQ := ⟨.mth "Browser" "_loaded_frames", "_loaded_frames", "Browser._loaded_frames", s14, []⟩
def dq15 : DefQ := ⟨.mth "Browser" "_first_frame", "_first_frame", "Browser._first_frame", s15, []⟩
def dq16 : DefQ := ⟨.mth "Browser" "_new_document", "_new_document", "Browser._new_document", s16, []⟩
def dq17 : DefQ := ⟨.mth "Browser" "_go", "_go", "Browser._go", s17, []⟩
def dq18 : DefQ := ⟨.mth "Browser" "_push", "_push", "Browser._push", s18, []⟩
def dq19 : DefQ := ⟨.mth "Browser" "_add_entry", "_add_entry", "Browser._add_entry", s19, []⟩
def dq20 : DefQ := ⟨.mth "Browser" "_cut_first", "_cut_first", "Browser._cut_first", s20, []⟩
def dq21 : DefQ := ⟨.mth "Browser" "_drop", "_drop", "Browser._drop", s21, []⟩
def dq22 : DefQ := ⟨.mth "Browser" "_merge_steps", "_merge_steps", "Browser._merge_steps", s22, []⟩
def dq23 : DefQ := ⟨.mth "Browser" "_throw_away", "_throw_away", "Browser._throw_away", s23, []⟩
def dq24 : DefQ := ⟨.mth "Browser" "_change_frames", "_change_frames", "Browser._change_frames", s24, []⟩
def dq25 : DefQ := ⟨.mth "Browser" "_all_frames", "_all_frames", "Browser._all_frames", s25, []⟩
def dq26 : DefQ := ⟨.mth "Browser" "_forget", "_forget", "Browser._forget", s26, []⟩
def dq27 : DefQ := ⟨.mth "Browser" "_mark_used", "_mark_used", "Browser._mark_used", s27, []⟩
def dq28 : DefQ := ⟨.mth "Browser" "_shown_numbers", "_shown_numbers", "Browser._shown_numbers", s28, []⟩
def dq29 : DefQ := ⟨.mth "Browser" "_number_at", "_number_at", "Browser._number_at", s29, []⟩
def dq30 : DefQ := ⟨.mth "Browser" "_frame_at", "_frame_at", "Browser._frame_at", s30, []⟩
def dq31 : DefQ := ⟨.mth "Browser" "_put_frame", "_put_frame", "Browser._put_frame", s31, []⟩
def dq32 : DefQ := ⟨.mth "Site" "__init__", "__init__", "Site.__init__", s32, [("cap", (.int 3)), ("pushes", (.tup [])), ("drops", (.bl false)), ("clears", (.bl false)), ("reopens", (.bl false))]⟩
def dq33 : DefQ := ⟨.prp "Site" "frames", "frames", "Site.frames", s33, []⟩
def dq34 : DefQ := ⟨.prp "Site" "links", "links", "Site.links", s34, []⟩
def dq35 : DefQ := ⟨.prp "Site" "home", "home", "Site.home", s35, []⟩
def dq36 : DefQ := ⟨.prp "Site" "cap", "cap", "Site.cap", s36, []⟩
def dq37 : DefQ := ⟨.prp "Site" "pushes", "pushes", "Site.pushes", s37, []⟩
def dq38 : DefQ := ⟨.prp "Site" "drops", "drops", "Site.drops", s38, []⟩
def dq39 : DefQ := ⟨.prp "Site" "clears", "clears", "Site.clears", s39, []⟩
def dq40 : DefQ := ⟨.prp "Site" "reopens", "reopens", "Site.reopens", s40, []⟩
def dq41 : DefQ := ⟨.mth "Site" "__eq__", "__eq__", "Site.__eq__", s41, []⟩
def dq42 : DefQ := ⟨.mth "Site" "addresses", "addresses", "Site.addresses", s42, []⟩
def dq43 : DefQ := ⟨.mth "Site" "frame_names", "frame_names", "Site.frame_names", s43, []⟩
def dq44 : DefQ := ⟨.mth "Site" "frames_of", "frames_of", "Site.frames_of", s44, []⟩
def dq45 : DefQ := ⟨.mth "Site" "links_of", "links_of", "Site.links_of", s45, []⟩
def dq46 : DefQ := ⟨.mth "Site" "depth_of", "depth_of", "Site.depth_of", s46, []⟩
def dq47 : DefQ := ⟨.glo "_require", "_require", "_require", s47, []⟩
def dq48 : DefQ := ⟨.glo "_is_name", "_is_name", "_is_name", s48, []⟩
def dq49 : DefQ := ⟨.glo "_is_key", "_is_key", "_is_key", s49, []⟩
def dq50 : DefQ := ⟨.glo "_are_frames", "_are_frames", "_are_frames", s50, []⟩
def dq51 : DefQ := ⟨.glo "_are_pairs", "_are_pairs", "_are_pairs", s51, []⟩
def dq52 : DefQ := ⟨.glo "_is_pair", "_is_pair", "_is_pair", s52, []⟩
def dq53 : DefQ := ⟨.glo "_is_shallow", "_is_shallow", "_is_shallow", s53, []⟩
def dq54 : DefQ := ⟨.glo "_are_links", "_are_links", "_are_links", s54, []⟩
def dq55 : DefQ := ⟨.glo "_are_addresses", "_are_addresses", "_are_addresses", s55, []⟩
def dq56 : DefQ := ⟨.glo "_is_cap", "_is_cap", "_is_cap", s56, []⟩
def dq57 : DefQ := ⟨.glo "_plain_pairs", "_plain_pairs", "_plain_pairs", s57, []⟩
def dq58 : DefQ := ⟨.glo "_depth", "_depth", "_depth", s58, []⟩
def dq59 : DefQ := ⟨.glo "check_site", "check_site", "check_site", s59, []⟩
def dq60 : DefQ := ⟨.glo "ordered_cares", "ordered_cares", "ordered_cares", s60, []⟩
def dq61 : DefQ := ⟨.glo "is_path", "is_path", "is_path", s61, []⟩
def dq62 : DefQ := ⟨.glo "is_address", "is_address", "is_address", s62, []⟩
def dq63 : DefQ := ⟨.glo "_is_care", "_is_care", "_is_care", s63, []⟩
def dq64 : DefQ := ⟨.glo "loaded_tree", "loaded_tree", "loaded_tree", s64, []⟩
def dq65 : DefQ := ⟨.glo "tree_at", "tree_at", "tree_at", s65, []⟩
def dq66 : DefQ := ⟨.glo "replaced", "replaced", "replaced", s66, []⟩
def dq67 : DefQ := ⟨.glo "without_frame", "without_frame", "without_frame", s67, []⟩
def dq68 : DefQ := ⟨.glo "seen_tree", "seen_tree", "seen_tree", s68, []⟩
def dq69 : DefQ := ⟨.glo "numbers_of", "numbers_of", "numbers_of", s69, []⟩
def dq70 : DefQ := ⟨.glo "places_of", "places_of", "places_of", s70, []⟩
def dq71 : DefQ := ⟨.mth "Renewal" "__init__", "__init__", "Renewal.__init__", s71, []⟩
def dq72 : DefQ := ⟨.mth "Renewal" "renewed", "renewed", "Renewal.renewed", s72, []⟩
def dq73 : DefQ := ⟨.mth "Renewal" "_new_number", "_new_number", "Renewal._new_number", s73, []⟩
def dq74 : DefQ := ⟨.mth "Renewal" "_all_frames", "_all_frames", "Renewal._all_frames", s74, []⟩
def dq75 : DefQ := ⟨.mth "Renewal" "_added_tree", "_added_tree", "Renewal._added_tree", s75, []⟩
def dq76 : DefQ := ⟨.glo "first_record", "first_record", "first_record", s76, []⟩
def dq77 : DefQ := ⟨.mth "Record" "__init__", "__init__", "Record.__init__", s77, []⟩
def dq78 : DefQ := ⟨.mth "Record" "tree", "tree", "Record.tree", s78, []⟩
def dq79 : DefQ := ⟨.mth "Record" "possible_deeds", "possible_deeds", "Record.possible_deeds", s79, []⟩
def dq80 : DefQ := ⟨.mth "Record" "allows", "allows", "Record.allows", s80, []⟩
def dq81 : DefQ := ⟨.mth "Record" "after", "after", "Record.after", s81, []⟩
def dq82 : DefQ := ⟨.mth "Record" "_fits", "_fits", "Record._fits", s82, []⟩
def dq83 : DefQ := ⟨.mth "Record" "_allows_word", "_allows_word", "Record._allows_word", s83, []⟩
def dq84 : DefQ := ⟨.mth "Record" "_with_step", "_with_step", "Record._with_step", s84, []⟩
def dq85 : DefQ := ⟨.mth "Record" "_after_drop", "_after_drop", "Record._after_drop", s85, []⟩
def dq86 : DefQ := ⟨.mth "Record" "_thrown_away", "_thrown_away", "Record._thrown_away", s86, []⟩
def dq87 : DefQ := ⟨.glo "_place_order", "_place_order", "_place_order", s87, []⟩
def dq88 : DefQ := ⟨.glo "is_deed", "is_deed", "is_deed", s88, []⟩
def dq89 : DefQ := ⟨.mth "Machine" "__init__", "__init__", "Machine.__init__", s89, [("cares", (.tup [(.str [106, 111, 105, 110, 116]), (.str [112, 114, 117, 110, 101, 115]), (.str [110, 101, 115, 116, 115]), (.str [110, 97, 109, 101, 115]), (.str [115, 116, 97, 116, 101, 115]), (.str [109, 101, 114, 103, 101, 115]), (.str [99, 111, 118, 101, 114, 115]), (.str [115, 104, 97, 114, 101, 115]), (.str [104, 111, 108, 100, 115])]))]⟩
def dq90 : DefQ := ⟨.prp "Machine" "site", "site", "Machine.site", s90, []⟩
def dq91 : DefQ := ⟨.prp "Machine" "cares", "cares", "Machine.cares", s91, []⟩
def dq92 : DefQ := ⟨.prp "Machine" "failure", "failure", "Machine.failure", s92, []⟩
def dq93 : DefQ := ⟨.prp "Machine" "past", "past", "Machine.past", s93, []⟩
def dq94 : DefQ := ⟨.prp "Machine" "here", "here", "Machine.here", s94, []⟩
def dq95 : DefQ := ⟨.mth "Machine" "__len__", "__len__", "Machine.__len__", s95, []⟩
def dq96 : DefQ := ⟨.mth "Machine" "__getitem__", "__getitem__", "Machine.__getitem__", s96, []⟩
def dq97 : DefQ := ⟨.mth "Machine" "__iter__", "__iter__", "Machine.__iter__", s97, []⟩
def dq98 : DefQ := ⟨.mth "Machine" "do", "do", "Machine.do", s98, []⟩
def dq99 : DefQ := ⟨.mth "Machine" "can", "can", "Machine.can", s99, []⟩
def dq100 : DefQ := ⟨.mth "Machine" "possible", "possible", "Machine.possible", s100, []⟩
def dq101 : DefQ := ⟨.mth "Machine" "copy", "copy", "Machine.copy", s101, []⟩
def dq102 : DefQ := ⟨.mth "Machine" "shown", "shown", "Machine.shown", s102, []⟩
def dq103 : DefQ := ⟨.mth "Machine" "counts", "counts", "Machine.counts", s103, []⟩
def dq104 : DefQ := ⟨.glo "difference", "difference", "difference", s104, []⟩
def dq105 : DefQ := ⟨.glo "_first_difference", "_first_difference", "_first_difference", s105, []⟩
def dq106 : DefQ := ⟨.glo "spot_of", "spot_of", "spot_of", s106, []⟩
def dq107 : DefQ := ⟨.glo "record_at", "record_at", "record_at", s107, []⟩
def dq108 : DefQ := ⟨.glo "_plain_tree", "_plain_tree", "_plain_tree", s108, []⟩
def dq109 : DefQ := ⟨.glo "state", "state", "state", s109, []⟩
def dq110 : DefQ := ⟨.glo "machine_at", "machine_at", "machine_at", s110, []⟩
def dq111 : DefQ := ⟨.glo "check_machine", "check_machine", "check_machine", s111, []⟩
def dq112 : DefQ := ⟨.glo "state_of", "state_of", "state_of", s112, []⟩
def dq113 : DefQ := ⟨.glo "_plain_frame", "_plain_frame", "_plain_frame", s113, []⟩
def dq114 : DefQ := ⟨.glo "_plain_document", "_plain_document", "_plain_document", s114, []⟩
def dq115 : DefQ := ⟨.glo "_entries_of", "_entries_of", "_entries_of", s115, []⟩
def dq116 : DefQ := ⟨.glo "_number_of", "_number_of", "_number_of", s116, []⟩
def dq117 : DefQ := ⟨.glo "_law_site", "_law_site", "_law_site", s117, []⟩
def dq118 : DefQ := ⟨.glo "_law_after", "_law_after", "_law_after", s118, []⟩
def dq119 : DefQ := ⟨.glo "_law_last_entry_right", "_law_last_entry_right", "_law_last_entry_right", s119, []⟩
def dq120 : DefQ := ⟨.glo "_law_saved_right", "_law_saved_right", "_law_saved_right", s120, []⟩
def dq121 : DefQ := ⟨.glo "_law_merges_right", "_law_merges_right", "_law_merges_right", s121, []⟩
def dq122 : DefQ := ⟨.glo "law", "law", "law", s122, []⟩
structure Gs (T : Tb) : Prop where
  n_all : T.mg ("all" : Str) = none
  n_bool : T.mg ("bool" : Str) = none
  n_dict : T.mg ("dict" : Str) = none
  n_enumerate : T.mg ("enumerate" : Str) = none
  n_int : T.mg ("int" : Str) = none
  n_isinstance : T.mg ("isinstance" : Str) = none
  n_len : T.mg ("len" : Str) = none
  n_list : T.mg ("list" : Str) = none
  n_max : T.mg ("max" : Str) = none
  n_range : T.mg ("range" : Str) = none
  n_set : T.mg ("set" : Str) = none
  n_sorted : T.mg ("sorted" : Str) = none
  n_str : T.mg ("str" : Str) = none
  n_tuple : T.mg ("tuple" : Str) = none
  n_zip : T.mg ("zip" : Str) = none
  c_Browser : T.mg ("Browser" : Str) = some (.ref (T.cls 0))
  c_Site : T.mg ("Site" : Str) = some (.ref (T.cls 1))
  c_Renewal : T.mg ("Renewal" : Str) = some (.ref (T.cls 2))
  c_Record : T.mg ("Record" : Str) = some (.ref (T.cls 3))
  c_Machine : T.mg ("Machine" : Str) = some (.ref (T.cls 4))
  g_ALL_CARES : GC T ("ALL_CARES" : Str) (.tup [(.str [106, 111, 105, 110, 116]), (.str [112, 114, 117, 110, 101, 115]), (.str [110, 101, 115, 116, 115]), (.str [110, 97, 109, 101, 115]), (.str [115, 116, 97, 116, 101, 115]), (.str [109, 101, 114, 103, 101, 115]), (.str [99, 111, 118, 101, 114, 115]), (.str [115, 104, 97, 114, 101, 115]), (.str [104, 111, 108, 100, 115])])
  g_PLAIN_WORDS : GC T ("PLAIN_WORDS" : Str) (.tup [(.str [98, 97, 99, 107]), (.str [110, 101, 120, 116]), (.str [99, 108, 101, 97, 114]), (.str [114, 101, 111, 112, 101, 110])])
  m___eq__ : ∀ f, f < T.nf → ¬ T.fld f = ("__eq__" : Str)
  m___getitem__ : ∀ f, f < T.nf → ¬ T.fld f = ("__getitem__" : Str)
  m___iter__ : ∀ f, f < T.nf → ¬ T.fld f = ("__iter__" : Str)
  m___len__ : ∀ f, f < T.nf → ¬ T.fld f = ("__len__" : Str)
  m__add_entry : ∀ f, f < T.nf → ¬ T.fld f = ("_add_entry" : Str)
  m__added_tree : ∀ f, f < T.nf → ¬ T.fld f = ("_added_tree" : Str)
  m__after_drop : ∀ f, f < T.nf → ¬ T.fld f = ("_after_drop" : Str)
  m__all_frames : ∀ f, f < T.nf → ¬ T.fld f = ("_all_frames" : Str)
  m__allows_word : ∀ f, f < T.nf → ¬ T.fld f = ("_allows_word" : Str)
  m__change_frames : ∀ f, f < T.nf → ¬ T.fld f = ("_change_frames" : Str)
  m__cut_first : ∀ f, f < T.nf → ¬ T.fld f = ("_cut_first" : Str)
  m__drop : ∀ f, f < T.nf → ¬ T.fld f = ("_drop" : Str)
  m__first_frame : ∀ f, f < T.nf → ¬ T.fld f = ("_first_frame" : Str)
  m__fits : ∀ f, f < T.nf → ¬ T.fld f = ("_fits" : Str)
  m__forget : ∀ f, f < T.nf → ¬ T.fld f = ("_forget" : Str)
  m__frame_at : ∀ f, f < T.nf → ¬ T.fld f = ("_frame_at" : Str)
  m__go : ∀ f, f < T.nf → ¬ T.fld f = ("_go" : Str)
  m__loaded_frames : ∀ f, f < T.nf → ¬ T.fld f = ("_loaded_frames" : Str)
  m__mark_used : ∀ f, f < T.nf → ¬ T.fld f = ("_mark_used" : Str)
  m__merge_steps : ∀ f, f < T.nf → ¬ T.fld f = ("_merge_steps" : Str)
  m__new_document : ∀ f, f < T.nf → ¬ T.fld f = ("_new_document" : Str)
  m__new_number : ∀ f, f < T.nf → ¬ T.fld f = ("_new_number" : Str)
  m__number_at : ∀ f, f < T.nf → ¬ T.fld f = ("_number_at" : Str)
  m__push : ∀ f, f < T.nf → ¬ T.fld f = ("_push" : Str)
  m__put_frame : ∀ f, f < T.nf → ¬ T.fld f = ("_put_frame" : Str)
  m__shown_numbers : ∀ f, f < T.nf → ¬ T.fld f = ("_shown_numbers" : Str)
  m__throw_away : ∀ f, f < T.nf → ¬ T.fld f = ("_throw_away" : Str)
  m__thrown_away : ∀ f, f < T.nf → ¬ T.fld f = ("_thrown_away" : Str)
  m__with_step : ∀ f, f < T.nf → ¬ T.fld f = ("_with_step" : Str)
  m_addresses : ∀ f, f < T.nf → ¬ T.fld f = ("addresses" : Str)
  m_after : ∀ f, f < T.nf → ¬ T.fld f = ("after" : Str)
  m_allows : ∀ f, f < T.nf → ¬ T.fld f = ("allows" : Str)
  m_can : ∀ f, f < T.nf → ¬ T.fld f = ("can" : Str)
  m_copy : ∀ f, f < T.nf → ¬ T.fld f = ("copy" : Str)
  m_counts : ∀ f, f < T.nf → ¬ T.fld f = ("counts" : Str)
  m_depth_of : ∀ f, f < T.nf → ¬ T.fld f = ("depth_of" : Str)
  m_do : ∀ f, f < T.nf → ¬ T.fld f = ("do" : Str)
  m_frame_names : ∀ f, f < T.nf → ¬ T.fld f = ("frame_names" : Str)
  m_frames_of : ∀ f, f < T.nf → ¬ T.fld f = ("frames_of" : Str)
  m_links_of : ∀ f, f < T.nf → ¬ T.fld f = ("links_of" : Str)
  m_load : ∀ f, f < T.nf → ¬ T.fld f = ("load" : Str)
  m_perform : ∀ f, f < T.nf → ¬ T.fld f = ("perform" : Str)
  m_possible : ∀ f, f < T.nf → ¬ T.fld f = ("possible" : Str)
  m_possible_deeds : ∀ f, f < T.nf → ¬ T.fld f = ("possible_deeds" : Str)
  m_renewed : ∀ f, f < T.nf → ¬ T.fld f = ("renewed" : Str)
  m_shown : ∀ f, f < T.nf → ¬ T.fld f = ("shown" : Str)
  m_step_counts : ∀ f, f < T.nf → ¬ T.fld f = ("step_counts" : Str)
  m_tree : ∀ f, f < T.nf → ¬ T.fld f = ("tree" : Str)
  m_view : ∀ f, f < T.nf → ¬ T.fld f = ("view" : Str)
  a_record : T.fld 0 = ("record" : Str)
  a_browser : T.fld 1 = ("browser" : Str)
  a__site : T.fld 2 = ("_site" : Str)
  a__cares : T.fld 3 = ("_cares" : Str)
  a_frame : T.fld 4 = ("frame" : Str)
  a_documents : T.fld 5 = ("documents" : Str)
  a__fresh : T.fld 6 = ("_fresh" : Str)
  a_now : T.fld 7 = ("now" : Str)
  a_last : T.fld 8 = ("last" : Str)
  a_first : T.fld 9 = ("first" : Str)
  a_part : T.fld 10 = ("part" : Str)
  a__frames : T.fld 11 = ("_frames" : Str)
  a__links : T.fld 12 = ("_links" : Str)
  a__home : T.fld 13 = ("_home" : Str)
  a__cap : T.fld 14 = ("_cap" : Str)
  a__pushes : T.fld 15 = ("_pushes" : Str)
  a__drops : T.fld 16 = ("_drops" : Str)
  a__clears : T.fld 17 = ("_clears" : Str)
  a__reopens : T.fld 18 = ("_reopens" : Str)
  a__depths : T.fld 19 = ("_depths" : Str)
  a__names : T.fld 20 = ("_names" : Str)
  a__staying : T.fld 21 = ("_staying" : Str)
  a__numbers : T.fld 22 = ("_numbers" : Str)
  a__added : T.fld 23 = ("_added" : Str)
  a_fresh : T.fld 24 = ("fresh" : Str)
  a_trees : T.fld 25 = ("trees" : Str)
  a_current : T.fld 26 = ("current" : Str)
  a__past : T.fld 27 = ("_past" : Str)
  a__failure : T.fld 28 = ("_failure" : Str)
  fo : FldOk T naM
  kt : KitOk T
  nc1 : T.nc ≤ 1000
  nc0 : T.nc = 5
  f0 : DF T ("_wall" : Str) ("_wall" : Str) s0 ["k"]
  f1 : DF T ("shown_entry" : Str) ("shown_entry" : Str) s1 ["frame", "now"]
  f2 : DF T ("pruned" : Str) ("pruned" : Str) s2 ["frame", "now"]
  f3 : DF T ("cut_off" : Str) ("cut_off" : Str) s3 ["frame", "first", "covers"]
  f4 : DF T ("shifted_step" : Str) ("shifted_step" : Str) s4 ["step", "gone"]
  f5 : DF T ("shifted" : Str) ("shifted" : Str) s5 ["frame", "gone"]
  f6 : DF T ("without_states" : Str) ("without_states" : Str) s6 ["frame", "staying"]
  f7 : DF T ("first_browser" : Str) ("first_browser" : Str) s7 ["site", "cares"]
  f8 : InF T 0 ("Browser" : Str) ("__init__" : Str) ("Browser.__init__" : Str) s8 ["self", "site", "cares", "steps", "frame", "documents"]
  f9 : MtF T 0 ("after" : Str) ("Browser.after" : Str) s9 ["self", "deed"]
  f10 : MtF T 0 ("perform" : Str) ("Browser.perform" : Str) s10 ["self", "deed"]
  f11 : MtF T 0 ("step_counts" : Str) ("Browser.step_counts" : Str) s11 ["self"]
  f12 : MtF T 0 ("view" : Str) ("Browser.view" : Str) s12 ["self", "frame"]
  f13 : MtF T 0 ("load" : Str) ("Browser.load" : Str) s13 ["self", "frame"]
  f14 : MtF T 0 ("_loaded_frames" : Str) ("Browser._loaded_frames" : Str) s14 ["self", "address", "saved"]
  f15 : MtF T 0 ("_first_frame" : Str) ("Browser._first_frame" : Str) s15 ["self", "address"]
  f16 : MtF T 0 ("_new_document" : Str) ("Browser._new_document" : Str) s16 ["self", "address"]
  f17 : MtF T 0 ("_go" : Str) ("Browser._go" : Str) s17 ["self", "path", "address"]
  f18 : MtF T 0 ("_push" : Str) ("Browser._push" : Str) s18 ["self", "path"]
  f19 : MtF T 0 ("_add_entry" : Str) ("Browser._add_entry" : Str) s19 ["self", "path", "state", "number"]
  f20 : MtF T 0 ("_cut_first" : Str) ("Browser._cut_first" : Str) s20 ["self"]
  f21 : MtF T 0 ("_drop" : Str) ("Browser._drop" : Str) s21 ["self", "path"]
  f22 : MtF T 0 ("_merge_steps" : Str) ("Browser._merge_steps" : Str) s22 ["self"]
  f23 : MtF T 0 ("_throw_away" : Str) ("Browser._throw_away" : Str) s23 ["self", "staying"]
  f24 : MtF T 0 ("_change_frames" : Str) ("Browser._change_frames" : Str) s24 ["self", "change"]
  f25 : MtF T 0 ("_all_frames" : Str) ("Browser._all_frames" : Str) s25 ["self"]
  f26 : MtF T 0 ("_forget" : Str) ("Browser._forget" : Str) s26 ["self"]
  f27 : MtF T 0 ("_mark_used" : Str) ("Browser._mark_used" : Str) s27 ["self", "frame", "used"]
  f28 : MtF T 0 ("_shown_numbers" : Str) ("Browser._shown_numbers" : Str) s28 ["self", "frame"]
  f29 : MtF T 0 ("_number_at" : Str) ("Browser._number_at" : Str) s29 ["self", "path"]
  f30 : MtF T 0 ("_frame_at" : Str) ("Browser._frame_at" : Str) s30 ["self", "path"]
  f31 : MtF T 0 ("_put_frame" : Str) ("Browser._put_frame" : Str) s31 ["self", "path", "frame"]
  f32 : InQ T 1 ("Site" : Str) dq32
  f33 : PrF T 1 ("frames" : Str) ("Site.frames" : Str) s33 ["self"]
  f34 : PrF T 1 ("links" : Str) ("Site.links" : Str) s34 ["self"]
  f35 : PrF T 1 ("home" : Str) ("Site.home" : Str) s35 ["self"]
  f36 : PrF T 1 ("cap" : Str) ("Site.cap" : Str) s36 ["self"]
  f37 : PrF T 1 ("pushes" : Str) ("Site.pushes" : Str) s37 ["self"]
  f38 : PrF T 1 ("drops" : Str) ("Site.drops" : Str) s38 ["self"]
  f39 : PrF T 1 ("clears" : Str) ("Site.clears" : Str) s39 ["self"]
  f40 : PrF T 1 ("reopens" : Str) ("Site.reopens" : Str) s40 ["self"]
  f41 : MtF T 1 ("__eq__" : Str) ("Site.__eq__" : Str) s41 ["self", "other"]
  f42 : MtF T 1 ("addresses" : Str) ("Site.addresses" : Str) s42 ["self"]
  f43 : MtF T 1 ("frame_names" : Str) ("Site.frame_names" : Str) s43 ["self"]
  f44 : MtF T 1 ("frames_of" : Str) ("Site.frames_of" : Str) s44 ["self", "address"]
  f45 : MtF T 1 ("links_of" : Str) ("Site.links_of" : Str) s45 ["self", "address"]
  f46 : MtF T 1 ("depth_of" : Str) ("Site.depth_of" : Str) s46 ["self", "address"]
  f47 : DF T ("_require" : Str) ("_require" : Str) s47 ["right", "part"]
  f48 : DF T ("_is_name" : Str) ("_is_name" : Str) s48 ["value"]
  f49 : DF T ("_is_key" : Str) ("_is_key" : Str) s49 ["value", "frames"]
  f50 : DF T ("_are_frames" : Str) ("_are_frames" : Str) s50 ["value"]
  f51 : DF T ("_are_pairs" : Str) ("_are_pairs" : Str) s51 ["rows", "frames"]
  f52 : DF T ("_is_pair" : Str) ("_is_pair" : Str) s52 ["row", "frames"]
  f53 : DF T ("_is_shallow" : Str) ("_is_shallow" : Str) s53 ["frames"]
  f54 : DF T ("_are_links" : Str) ("_are_links" : Str) s54 ["value", "frames"]
  f55 : DF T ("_are_addresses" : Str) ("_are_addresses" : Str) s55 ["value", "frames"]
  f56 : DF T ("_is_cap" : Str) ("_is_cap" : Str) s56 ["value"]
  f57 : DF T ("_plain_pairs" : Str) ("_plain_pairs" : Str) s57 ["rows"]
  f58 : DF T ("_depth" : Str) ("_depth" : Str) s58 ["frames", "address"]
  f59 : DF T ("check_site" : Str) ("check_site" : Str) s59 ["site"]
  f60 : DF T ("ordered_cares" : Str) ("ordered_cares" : Str) s60 ["cares"]
  f61 : DF T ("is_path" : Str) ("is_path" : Str) s61 ["site", "value"]
  f62 : DF T ("is_address" : Str) ("is_address" : Str) s62 ["site", "value"]
  f63 : DF T ("_is_care" : Str) ("_is_care" : Str) s63 ["value"]
  f64 : DF T ("loaded_tree" : Str) ("loaded_tree" : Str) s64 ["site", "address", "fresh"]
  f65 : DF T ("tree_at" : Str) ("tree_at" : Str) s65 ["tree", "path"]
  f66 : DF T ("replaced" : Str) ("replaced" : Str) s66 ["tree", "path", "part"]
  f67 : DF T ("without_frame" : Str) ("without_frame" : Str) s67 ["tree", "page", "lost"]
  f68 : DF T ("seen_tree" : Str) ("seen_tree" : Str) s68 ["tree"]
  f69 : DF T ("numbers_of" : Str) ("numbers_of" : Str) s69 ["tree"]
  f70 : DF T ("places_of" : Str) ("places_of" : Str) s70 ["tree", "path"]
  f71 : InF T 2 ("Renewal" : Str) ("__init__" : Str) ("Renewal.__init__" : Str) s71 ["self", "site", "staying", "fresh"]
  f72 : MtF T 2 ("renewed" : Str) ("Renewal.renewed" : Str) s72 ["self", "tree"]
  f73 : MtF T 2 ("_new_number" : Str) ("Renewal._new_number" : Str) s73 ["self", "number"]
  f74 : MtF T 2 ("_all_frames" : Str) ("Renewal._all_frames" : Str) s74 ["self", "number", "address", "left"]
  f75 : MtF T 2 ("_added_tree" : Str) ("Renewal._added_tree" : Str) s75 ["self", "number", "name", "page"]
  f76 : DF T ("first_record" : Str) ("first_record" : Str) s76 ["site"]
  f77 : InF T 3 ("Record" : Str) ("__init__" : Str) ("Record.__init__" : Str) s77 ["self", "site", "trees", "current", "fresh"]
  f78 : MtF T 3 ("tree" : Str) ("Record.tree" : Str) s78 ["self"]
  f79 : MtF T 3 ("possible_deeds" : Str) ("Record.possible_deeds" : Str) s79 ["self"]
  f80 : MtF T 3 ("allows" : Str) ("Record.allows" : Str) s80 ["self", "deed"]
  f81 : MtF T 3 ("after" : Str) ("Record.after" : Str) s81 ["self", "deed"]
  f82 : MtF T 3 ("_fits" : Str) ("Record._fits" : Str) s82 ["self", "path", "address"]
  f83 : MtF T 3 ("_allows_word" : Str) ("Record._allows_word" : Str) s83 ["self", "word"]
  f84 : MtF T 3 ("_with_step" : Str) ("Record._with_step" : Str) s84 ["self", "path", "part", "fresh"]
  f85 : MtF T 3 ("_after_drop" : Str) ("Record._after_drop" : Str) s85 ["self", "path"]
  f86 : MtF T 3 ("_thrown_away" : Str) ("Record._thrown_away" : Str) s86 ["self", "staying"]
  f87 : DF T ("_place_order" : Str) ("_place_order" : Str) s87 ["place"]
  f88 : DF T ("is_deed" : Str) ("is_deed" : Str) s88 ["site", "value"]
  f89 : InQ T 4 ("Machine" : Str) dq89
  f90 : PrF T 4 ("site" : Str) ("Machine.site" : Str) s90 ["self"]
  f91 : PrF T 4 ("cares" : Str) ("Machine.cares" : Str) s91 ["self"]
  f92 : PrF T 4 ("failure" : Str) ("Machine.failure" : Str) s92 ["self"]
  f93 : PrF T 4 ("past" : Str) ("Machine.past" : Str) s93 ["self"]
  f94 : PrF T 4 ("here" : Str) ("Machine.here" : Str) s94 ["self"]
  f95 : MtF T 4 ("__len__" : Str) ("Machine.__len__" : Str) s95 ["self"]
  f96 : MtF T 4 ("__getitem__" : Str) ("Machine.__getitem__" : Str) s96 ["self", "at"]
  f97 : MtF T 4 ("__iter__" : Str) ("Machine.__iter__" : Str) s97 ["self"]
  f98 : MtF T 4 ("do" : Str) ("Machine.do" : Str) s98 ["self", "deed"]
  f99 : MtF T 4 ("can" : Str) ("Machine.can" : Str) s99 ["self", "deed"]
  f100 : MtF T 4 ("possible" : Str) ("Machine.possible" : Str) s100 ["self"]
  f101 : MtF T 4 ("copy" : Str) ("Machine.copy" : Str) s101 ["self"]
  f102 : MtF T 4 ("shown" : Str) ("Machine.shown" : Str) s102 ["self"]
  f103 : MtF T 4 ("counts" : Str) ("Machine.counts" : Str) s103 ["self"]
  f104 : DF T ("difference" : Str) ("difference" : Str) s104 ["record", "browser"]
  f105 : DF T ("_first_difference" : Str) ("_first_difference" : Str) s105 ["right", "shown", "path"]
  f106 : DF T ("spot_of" : Str) ("spot_of" : Str) s106 ["record"]
  f107 : DF T ("record_at" : Str) ("record_at" : Str) s107 ["site", "spot"]
  f108 : DF T ("_plain_tree" : Str) ("_plain_tree" : Str) s108 ["tree", "numbers"]
  f109 : DF T ("state" : Str) ("state" : Str) s109 ["machine"]
  f110 : DF T ("machine_at" : Str) ("machine_at" : Str) s110 ["site", "cares", "state"]
  f111 : DF T ("check_machine" : Str) ("check_machine" : Str) s111 ["machine"]
  f112 : DF T ("state_of" : Str) ("state_of" : Str) s112 ["record", "browser"]
  f113 : DF T ("_plain_frame" : Str) ("_plain_frame" : Str) s113 ["browser", "frame", "numbers"]
  f114 : DF T ("_plain_document" : Str) ("_plain_document" : Str) s114 ["browser", "number", "numbers"]
  f115 : DF T ("_entries_of" : Str) ("_entries_of" : Str) s115 ["frame", "documents"]
  f116 : DF T ("_number_of" : Str) ("_number_of" : Str) s116 ["document", "documents"]
  f117 : DF T ("_law_site" : Str) ("_law_site" : Str) s117 ["_law_number"]
  f118 : DF T ("_law_after" : Str) ("_law_after" : Str) s118 ["_law_site_here", "_law_given", "_law_deeds"]
  f119 : DF T ("_law_last_entry_right" : Str) ("_law_last_entry_right" : Str) s119 []
  f120 : DF T ("_law_saved_right" : Str) ("_law_saved_right" : Str) s120 []
  f121 : DF T ("_law_merges_right" : Str) ("_law_merges_right" : Str) s121 []
  f122 : DF T ("law" : Str) ("law" : Str) s122 ["_law_script"]
  tb19 : TabFm T 0 ("_add_entry" : Str) (lamQ "Browser._add_entry")
  tb20 : TabFm T 0 ("_cut_first" : Str) (lamQ "Browser._cut_first")
  tb22 : TabFm T 0 ("_merge_steps" : Str) (lamQ "Browser._merge_steps")
  tb23 : TabFm T 0 ("_throw_away" : Str) (lamQ "Browser._throw_away")
theorem Gs.reb {T : Tb} {b : Heap} {a ac : Addr} {cd : List DV} {cv : List V} {aq : Str} (G : Gs T) (up : TabUp T b) : Gs (T.reb b a cd cv ac aq) where
  n_all := G.n_all
  n_bool := G.n_bool
  n_dict := G.n_dict
  n_enumerate := G.n_enumerate
  n_int := G.n_int
  n_isinstance := G.n_isinstance
  n_len := G.n_len
  n_list := G.n_list
  n_max := G.n_max
  n_range := G.n_range
  n_set := G.n_set
  n_sorted := G.n_sorted
  n_str := G.n_str
  n_tuple := G.n_tuple
  n_zip := G.n_zip
  c_Browser := G.c_Browser
  c_Site := G.c_Site
  c_Renewal := G.c_Renewal
  c_Record := G.c_Record
  c_Machine := G.c_Machine
  g_ALL_CARES := G.g_ALL_CARES.reb
  g_PLAIN_WORDS := G.g_PLAIN_WORDS.reb
  m___eq__ := G.m___eq__
  m___getitem__ := G.m___getitem__
  m___iter__ := G.m___iter__
  m___len__ := G.m___len__
  m__add_entry := G.m__add_entry
  m__added_tree := G.m__added_tree
  m__after_drop := G.m__after_drop
  m__all_frames := G.m__all_frames
  m__allows_word := G.m__allows_word
  m__change_frames := G.m__change_frames
  m__cut_first := G.m__cut_first
  m__drop := G.m__drop
  m__first_frame := G.m__first_frame
  m__fits := G.m__fits
  m__forget := G.m__forget
  m__frame_at := G.m__frame_at
  m__go := G.m__go
  m__loaded_frames := G.m__loaded_frames
  m__mark_used := G.m__mark_used
  m__merge_steps := G.m__merge_steps
  m__new_document := G.m__new_document
  m__new_number := G.m__new_number
  m__number_at := G.m__number_at
  m__push := G.m__push
  m__put_frame := G.m__put_frame
  m__shown_numbers := G.m__shown_numbers
  m__throw_away := G.m__throw_away
  m__thrown_away := G.m__thrown_away
  m__with_step := G.m__with_step
  m_addresses := G.m_addresses
  m_after := G.m_after
  m_allows := G.m_allows
  m_can := G.m_can
  m_copy := G.m_copy
  m_counts := G.m_counts
  m_depth_of := G.m_depth_of
  m_do := G.m_do
  m_frame_names := G.m_frame_names
  m_frames_of := G.m_frames_of
  m_links_of := G.m_links_of
  m_load := G.m_load
  m_perform := G.m_perform
  m_possible := G.m_possible
  m_possible_deeds := G.m_possible_deeds
  m_renewed := G.m_renewed
  m_shown := G.m_shown
  m_step_counts := G.m_step_counts
  m_tree := G.m_tree
  m_view := G.m_view
  a_record := G.a_record
  a_browser := G.a_browser
  a__site := G.a__site
  a__cares := G.a__cares
  a_frame := G.a_frame
  a_documents := G.a_documents
  a__fresh := G.a__fresh
  a_now := G.a_now
  a_last := G.a_last
  a_first := G.a_first
  a_part := G.a_part
  a__frames := G.a__frames
  a__links := G.a__links
  a__home := G.a__home
  a__cap := G.a__cap
  a__pushes := G.a__pushes
  a__drops := G.a__drops
  a__clears := G.a__clears
  a__reopens := G.a__reopens
  a__depths := G.a__depths
  a__names := G.a__names
  a__staying := G.a__staying
  a__numbers := G.a__numbers
  a__added := G.a__added
  a_fresh := G.a_fresh
  a_trees := G.a_trees
  a_current := G.a_current
  a__past := G.a__past
  a__failure := G.a__failure
  fo := G.fo.reb
  kt := G.kt.reb
  nc1 := G.nc1
  nc0 := G.nc0
  f0 := ⟨G.f0.ex⟩
  f1 := ⟨G.f1.ex⟩
  f2 := ⟨G.f2.ex⟩
  f3 := ⟨G.f3.ex⟩
  f4 := ⟨G.f4.ex⟩
  f5 := ⟨G.f5.ex⟩
  f6 := ⟨G.f6.ex⟩
  f7 := ⟨G.f7.ex⟩
  f8 := ⟨G.f8.ex⟩
  f9 := ⟨G.f9.ex⟩
  f10 := ⟨G.f10.ex⟩
  f11 := ⟨G.f11.ex⟩
  f12 := ⟨G.f12.ex⟩
  f13 := ⟨G.f13.ex⟩
  f14 := ⟨G.f14.ex⟩
  f15 := ⟨G.f15.ex⟩
  f16 := ⟨G.f16.ex⟩
  f17 := ⟨G.f17.ex⟩
  f18 := ⟨G.f18.ex⟩
  f19 := ⟨G.f19.ex⟩
  f20 := ⟨G.f20.ex⟩
  f21 := ⟨G.f21.ex⟩
  f22 := ⟨G.f22.ex⟩
  f23 := ⟨G.f23.ex⟩
  f24 := ⟨G.f24.ex⟩
  f25 := ⟨G.f25.ex⟩
  f26 := ⟨G.f26.ex⟩
  f27 := ⟨G.f27.ex⟩
  f28 := ⟨G.f28.ex⟩
  f29 := ⟨G.f29.ex⟩
  f30 := ⟨G.f30.ex⟩
  f31 := ⟨G.f31.ex⟩
  f32 := G.f32.reb
  f33 := ⟨G.f33.ex⟩
  f34 := ⟨G.f34.ex⟩
  f35 := ⟨G.f35.ex⟩
  f36 := ⟨G.f36.ex⟩
  f37 := ⟨G.f37.ex⟩
  f38 := ⟨G.f38.ex⟩
  f39 := ⟨G.f39.ex⟩
  f40 := ⟨G.f40.ex⟩
  f41 := ⟨G.f41.ex⟩
  f42 := ⟨G.f42.ex⟩
  f43 := ⟨G.f43.ex⟩
  f44 := ⟨G.f44.ex⟩
  f45 := ⟨G.f45.ex⟩
  f46 := ⟨G.f46.ex⟩
  f47 := ⟨G.f47.ex⟩
  f48 := ⟨G.f48.ex⟩
  f49 := ⟨G.f49.ex⟩
  f50 := ⟨G.f50.ex⟩
  f51 := ⟨G.f51.ex⟩
  f52 := ⟨G.f52.ex⟩
  f53 := ⟨G.f53.ex⟩
  f54 := ⟨G.f54.ex⟩
  f55 := ⟨G.f55.ex⟩
  f56 := ⟨G.f56.ex⟩
  f57 := ⟨G.f57.ex⟩
  f58 := ⟨G.f58.ex⟩
  f59 := ⟨G.f59.ex⟩
  f60 := ⟨G.f60.ex⟩
  f61 := ⟨G.f61.ex⟩
  f62 := ⟨G.f62.ex⟩
  f63 := ⟨G.f63.ex⟩
  f64 := ⟨G.f64.ex⟩
  f65 := ⟨G.f65.ex⟩
  f66 := ⟨G.f66.ex⟩
  f67 := ⟨G.f67.ex⟩
  f68 := ⟨G.f68.ex⟩
  f69 := ⟨G.f69.ex⟩
  f70 := ⟨G.f70.ex⟩
  f71 := ⟨G.f71.ex⟩
  f72 := ⟨G.f72.ex⟩
  f73 := ⟨G.f73.ex⟩
  f74 := ⟨G.f74.ex⟩
  f75 := ⟨G.f75.ex⟩
  f76 := ⟨G.f76.ex⟩
  f77 := ⟨G.f77.ex⟩
  f78 := ⟨G.f78.ex⟩
  f79 := ⟨G.f79.ex⟩
  f80 := ⟨G.f80.ex⟩
  f81 := ⟨G.f81.ex⟩
  f82 := ⟨G.f82.ex⟩
  f83 := ⟨G.f83.ex⟩
  f84 := ⟨G.f84.ex⟩
  f85 := ⟨G.f85.ex⟩
  f86 := ⟨G.f86.ex⟩
  f87 := ⟨G.f87.ex⟩
  f88 := ⟨G.f88.ex⟩
  f89 := G.f89.reb
  f90 := ⟨G.f90.ex⟩
  f91 := ⟨G.f91.ex⟩
  f92 := ⟨G.f92.ex⟩
  f93 := ⟨G.f93.ex⟩
  f94 := ⟨G.f94.ex⟩
  f95 := ⟨G.f95.ex⟩
  f96 := ⟨G.f96.ex⟩
  f97 := ⟨G.f97.ex⟩
  f98 := ⟨G.f98.ex⟩
  f99 := ⟨G.f99.ex⟩
  f100 := ⟨G.f100.ex⟩
  f101 := ⟨G.f101.ex⟩
  f102 := ⟨G.f102.ex⟩
  f103 := ⟨G.f103.ex⟩
  f104 := ⟨G.f104.ex⟩
  f105 := ⟨G.f105.ex⟩
  f106 := ⟨G.f106.ex⟩
  f107 := ⟨G.f107.ex⟩
  f108 := ⟨G.f108.ex⟩
  f109 := ⟨G.f109.ex⟩
  f110 := ⟨G.f110.ex⟩
  f111 := ⟨G.f111.ex⟩
  f112 := ⟨G.f112.ex⟩
  f113 := ⟨G.f113.ex⟩
  f114 := ⟨G.f114.ex⟩
  f115 := ⟨G.f115.ex⟩
  f116 := ⟨G.f116.ex⟩
  f117 := ⟨G.f117.ex⟩
  f118 := ⟨G.f118.ex⟩
  f119 := ⟨G.f119.ex⟩
  f120 := ⟨G.f120.ex⟩
  f121 := ⟨G.f121.ex⟩
  f122 := ⟨G.f122.ex⟩
  tb19 := G.tb19.reb up
  tb20 := G.tb20.reb up
  tb22 := G.tb22.reb up
  tb23 := G.tb23.reb up
def wh0 : List Wh := [.pos 0, .pos 1, .kw 0]
def wh1 : List Wh := [.pos 0, .pos 1, .pos 2, .pos 3, .kw 0, .dfl (.tup []), .dfl (.bl false), .dfl (.bl false), .dfl (.bl false)]
def wh2 : List Wh := [.pos 0, .pos 1, .pos 2, .pos 3, .kw 0, .dfl (.tup []), .kw 2, .kw 1, .dfl (.bl false)]
def wh3 : List Wh := [.pos 0, .pos 1, .pos 2, .pos 3, .kw 0, .kw 3, .kw 1, .dfl (.bl false), .kw 2]
structure Lv (T : Tb) (j : Nat) (call : Nat → MF) : Prop where
  d0 : DefAt T j ("_wall" : Str) 1 (call 0)
  d1 : DefAt T j ("shown_entry" : Str) 2 (call 1)
  d2 : DefAt T j ("pruned" : Str) 2 (call 2)
  d3 : DefAt T j ("cut_off" : Str) 3 (call 3)
  d4 : DefAt T j ("shifted_step" : Str) 2 (call 4)
  d5 : DefAt T j ("shifted" : Str) 2 (call 5)
  d6 : DefAt T j ("without_states" : Str) 2 (call 6)
  d7 : DefAt T j ("first_browser" : Str) 2 (call 7)
  d8 : MakeAt T j ("Browser" : Str) 0 6 (call 8)
  d9 : MethAt T j 0 ("after" : Str) 2 (call 9)
  d10 : MethAt T j 0 ("perform" : Str) 2 (call 10)
  d11 : MethAt T j 0 ("step_counts" : Str) 1 (call 11)
  d12 : MethAt T j 0 ("view" : Str) 2 (call 12)
  d13 : MethAt T j 0 ("load" : Str) 2 (call 13)
  d14 : MethAt T j 0 ("_loaded_frames" : Str) 3 (call 14)
  d15 : MethAt T j 0 ("_first_frame" : Str) 2 (call 15)
  d16 : MethAt T j 0 ("_new_document" : Str) 2 (call 16)
  d17 : MethAt T j 0 ("_go" : Str) 3 (call 17)
  d18 : MethAt T j 0 ("_push" : Str) 2 (call 18)
  d19 : MethAt T j 0 ("_add_entry" : Str) 4 (call 19)
  d20 : MethAt T j 0 ("_cut_first" : Str) 1 (call 20)
  d21 : MethAt T j 0 ("_drop" : Str) 2 (call 21)
  d22 : MethAt T j 0 ("_merge_steps" : Str) 1 (call 22)
  d23 : MethAt T j 0 ("_throw_away" : Str) 2 (call 23)
  d25 : MethAt T j 0 ("_all_frames" : Str) 1 (call 25)
  d26 : MethAt T j 0 ("_forget" : Str) 1 (call 26)
  d27 : MethAt T j 0 ("_mark_used" : Str) 3 (call 27)
  d28 : MethAt T j 0 ("_shown_numbers" : Str) 2 (call 28)
  d29 : MethAt T j 0 ("_number_at" : Str) 2 (call 29)
  d30 : MethAt T j 0 ("_frame_at" : Str) 2 (call 30)
  d31 : MethAt T j 0 ("_put_frame" : Str) 3 (call 31)
  d33 : PropAt T j 1 ("frames" : Str) (call 33)
  d34 : PropAt T j 1 ("links" : Str) (call 34)
  d35 : PropAt T j 1 ("home" : Str) (call 35)
  d36 : PropAt T j 1 ("cap" : Str) (call 36)
  d37 : PropAt T j 1 ("pushes" : Str) (call 37)
  d38 : PropAt T j 1 ("drops" : Str) (call 38)
  d39 : PropAt T j 1 ("clears" : Str) (call 39)
  d40 : PropAt T j 1 ("reopens" : Str) (call 40)
  d41 : MethAt T j 1 ("__eq__" : Str) 2 (call 41)
  d42 : MethAt T j 1 ("addresses" : Str) 1 (call 42)
  d43 : MethAt T j 1 ("frame_names" : Str) 1 (call 43)
  d44 : MethAt T j 1 ("frames_of" : Str) 2 (call 44)
  d45 : MethAt T j 1 ("links_of" : Str) 2 (call 45)
  d46 : MethAt T j 1 ("depth_of" : Str) 2 (call 46)
  d47 : DefAt T j ("_require" : Str) 2 (call 47)
  d48 : DefAt T j ("_is_name" : Str) 1 (call 48)
  d49 : DefAt T j ("_is_key" : Str) 2 (call 49)
  d50 : DefAt T j ("_are_frames" : Str) 1 (call 50)
  d51 : DefAt T j ("_are_pairs" : Str) 2 (call 51)
  d52 : DefAt T j ("_is_pair" : Str) 2 (call 52)
  d53 : DefAt T j ("_is_shallow" : Str) 1 (call 53)
  d54 : DefAt T j ("_are_links" : Str) 2 (call 54)
  d55 : DefAt T j ("_are_addresses" : Str) 2 (call 55)
  d56 : DefAt T j ("_is_cap" : Str) 1 (call 56)
  d57 : DefAt T j ("_plain_pairs" : Str) 1 (call 57)
  d58 : DefAt T j ("_depth" : Str) 2 (call 58)
  d59 : DefAt T j ("check_site" : Str) 1 (call 59)
  d60 : DefAt T j ("ordered_cares" : Str) 1 (call 60)
  d61 : DefAt T j ("is_path" : Str) 2 (call 61)
  d62 : DefAt T j ("is_address" : Str) 2 (call 62)
  d63 : DefAt T j ("_is_care" : Str) 1 (call 63)
  d64 : DefAt T j ("loaded_tree" : Str) 3 (call 64)
  d65 : DefAt T j ("tree_at" : Str) 2 (call 65)
  d66 : DefAt T j ("replaced" : Str) 3 (call 66)
  d67 : DefAt T j ("without_frame" : Str) 3 (call 67)
  d68 : DefAt T j ("seen_tree" : Str) 1 (call 68)
  d69 : DefAt T j ("numbers_of" : Str) 1 (call 69)
  d70 : DefAt T j ("places_of" : Str) 2 (call 70)
  d71 : MakeAt T j ("Renewal" : Str) 2 4 (call 71)
  d72 : MethAt T j 2 ("renewed" : Str) 2 (call 72)
  d73 : MethAt T j 2 ("_new_number" : Str) 2 (call 73)
  d74 : MethAt T j 2 ("_all_frames" : Str) 4 (call 74)
  d75 : MethAt T j 2 ("_added_tree" : Str) 4 (call 75)
  d76 : DefAt T j ("first_record" : Str) 1 (call 76)
  d77 : MakeAt T j ("Record" : Str) 3 5 (call 77)
  d78 : MethAt T j 3 ("tree" : Str) 1 (call 78)
  d79 : MethAt T j 3 ("possible_deeds" : Str) 1 (call 79)
  d80 : MethAt T j 3 ("allows" : Str) 2 (call 80)
  d81 : MethAt T j 3 ("after" : Str) 2 (call 81)
  d82 : MethAt T j 3 ("_fits" : Str) 3 (call 82)
  d83 : MethAt T j 3 ("_allows_word" : Str) 2 (call 83)
  d84 : MethAt T j 3 ("_with_step" : Str) 4 (call 84)
  d85 : MethAt T j 3 ("_after_drop" : Str) 2 (call 85)
  d86 : MethAt T j 3 ("_thrown_away" : Str) 2 (call 86)
  d87 : DefAt T j ("_place_order" : Str) 1 (call 87)
  d88 : DefAt T j ("is_deed" : Str) 2 (call 88)
  d90 : PropAt T j 4 ("site" : Str) (call 90)
  d91 : PropAt T j 4 ("cares" : Str) (call 91)
  d92 : PropAt T j 4 ("failure" : Str) (call 92)
  d93 : PropAt T j 4 ("past" : Str) (call 93)
  d94 : PropAt T j 4 ("here" : Str) (call 94)
  d95 : MethAt T j 4 ("__len__" : Str) 1 (call 95)
  d96 : MethAt T j 4 ("__getitem__" : Str) 2 (call 96)
  d97 : MethAt T j 4 ("__iter__" : Str) 1 (call 97)
  d98 : MethAt T j 4 ("do" : Str) 2 (call 98)
  d99 : MethAt T j 4 ("can" : Str) 2 (call 99)
  d100 : MethAt T j 4 ("possible" : Str) 1 (call 100)
  d101 : MethAt T j 4 ("copy" : Str) 1 (call 101)
  d102 : MethAt T j 4 ("shown" : Str) 1 (call 102)
  d103 : MethAt T j 4 ("counts" : Str) 1 (call 103)
  d104 : DefAt T j ("difference" : Str) 2 (call 104)
  d105 : DefAt T j ("_first_difference" : Str) 3 (call 105)
  d106 : DefAt T j ("spot_of" : Str) 1 (call 106)
  d107 : DefAt T j ("record_at" : Str) 2 (call 107)
  d108 : DefAt T j ("_plain_tree" : Str) 2 (call 108)
  d109 : DefAt T j ("state" : Str) 1 (call 109)
  d110 : DefAt T j ("machine_at" : Str) 3 (call 110)
  d111 : DefAt T j ("check_machine" : Str) 1 (call 111)
  d112 : DefAt T j ("state_of" : Str) 2 (call 112)
  d113 : DefAt T j ("_plain_frame" : Str) 3 (call 113)
  d114 : DefAt T j ("_plain_document" : Str) 3 (call 114)
  d115 : DefAt T j ("_entries_of" : Str) 2 (call 115)
  d116 : DefAt T j ("_number_of" : Str) 2 (call 116)
  d117 : DefAt T j ("_law_site" : Str) 1 (call 117)
  d118 : DefAt T j ("_law_after" : Str) 3 (call 118)
  d119 : DefAt T j ("_law_last_entry_right" : Str) 0 (call 119)
  d120 : DefAt T j ("_law_saved_right" : Str) 0 (call 120)
  d121 : DefAt T j ("_law_merges_right" : Str) 0 (call 121)
  k0 : MakeKAt T j ("Machine" : Str) 4 2 ["cares"] 3 wh0 (call 89)
  k1 : MakeKAt T j ("Site" : Str) 1 4 ["cap"] 9 wh1 (call 32)
  k2 : MakeKAt T j ("Site" : Str) 1 4 ["cap", "clears", "drops"] 9 wh2 (call 32)
  k3 : MakeKAt T j ("Site" : Str) 1 4 ["cap", "drops", "reopens", "pushes"] 9 wh3 (call 32)
abbrev LLv (T : Tb) (j : Nat) (call : Nat → MF) : Prop := ∀ (b : Heap) (a : Addr) (cd : List DV) (cv : List V) (ac : Addr) (aq : Str), TabUp T b → Lv (T.reb b a cd cv ac aq) j call
-- Browser._change_frames
abbrev N24 : List Str := ["self", "change", "number", "address", "kept", "frames", "name", "frame"]
theorem sc24 : FnScope N24 ["self", "change"] (defScope s24) := ⟨rfl, rfl, rfl, by decide +kernel, rfl, by decide +kernel, by decide +kernel⟩
def b24 (g : MF) (call : Nat → MF) : MS := (sSeq (sFldM naM 4 (mVar 0) (mAct 1 g (aCons (mFld naM 4 (mVar 0)) aNil))) (sFor (gSet 2) (iSeq (mCall (bList) (aCons (mFld naM 5 (mVar 0)) aNil))) (sSeq (sAsg (gTupM 3 (gsCons (gSet 3) (gsCons (gSet 4) (gsCons (gSet 5) gsNil)))) (mBin dGet (mFld naM 5 (mVar 0)) (mVar 2))) (sDput (mTup (aCons (mVar 3) (aCons (mVar 4) (aCons (mCall (bTup) (aCons (mLc (iSeq (mVar 5)) (gTupM 2 (gsCons (gSet 6) (gsCons (gSet 7) gsNil))) tYesM (mTup (aCons (mVar 6) (aCons (mAct 1 g (aCons (mVar 7) aNil)) aNil))) [6, 7]) aNil)) aNil)))) (mFld naM 5 (mVar 0)) (mVar 2)))))
theorem tL24 {T : Tb} {n : Nat} {call : Nat → MF} (G : Gs T) (LL : LLv T (6 * n) call) : MethLAt T (6 * n + 4) (6 * n + 3) 0 ("_change_frames" : Str) (fun g => mDefL 6 (b24 g call)) :=
  G.f24.atL (gb := fun g => b24 g call) 6 sc24 rfl rfl fun b a cd cv ac aq up g A f cdv A0 outer s H E c => have G : Gs (T.reb b a cd cv ac aq) := G.reb up; have L : Lv (T.reb b a cd cv ac aq) (6 * n) call := LL b a cd cv ac aq up; have c0 : Cn (T.reb b a cd cv ac aq) (6 * n) _ := c.mono (Nat.le_add_right _ 3); have hj : 6 * n + 1 ≤ 6 * n + 3 := Nat.add_le_add_left (by decide) _; (sx_cons (sx_fld c G.fo 4 (ex_var 0) (ex_act c A (Nat.le_refl _) 1 (ax_cons (ex_fld c G.fo 4 (ex_var 0) G.a_frame) ax_nil)) G.a_frame)
      (sx_one (sx_for c (ix_seqM c (ex_callTy (call_list3 c) (ax_cons (ex_fld c G.fo 5 (ex_var 0) G.a_documents) ax_nil) (hm := G.n_list))) (gx_name c 2)
      (sx_cons (sx_asg (ex_dget c (ex_fld c G.fo 5 (ex_var 0) G.a_documents) (ex_var 2)) (gx_tup c (gsx_cons (gx_name c 3) (gsx_cons (gx_name c 4) (gsx_cons (gx_name c 5) gsx_nil)))))
      (sx_one (sx_dput c (ex_fld c G.fo 5 (ex_var 0) G.a_documents) (ex_var 2) (ex_tup (ax_cons (ex_var 3) (ax_cons (ex_var 4) (ax_cons (ex_callTy (call_tup2 c) (ax_cons (ex_lc c [("name", 6), ("frame", 7)] (ix_seqM c (ex_var 5)) (blkOk_by (N := N24) (sc := defScope s24) (by decide +kernel)) (fun _ _ _ _ _ => (gx_tup (Cn.blk c _ _ _ _ _) (gsx_cons (gx_name (Cn.blk c _ _ _ _ _) 6) (gsx_cons (gx_name (Cn.blk c _ _ _ _ _) 7) gsx_nil)))) (fun _ _ _ _ _ => tsx_nil) (fun _ _ _ _ _ => (ex_tup (ax_cons (ex_var 6) (ax_cons (ex_act (Cn.blk c _ _ _ _ _) A (Nat.le_refl _) 1 (ax_cons (ex_var 7) ax_nil)) ax_nil))))) ax_nil) (hm := G.n_tuple)) ax_nil))))))))))
-- shown_entry
abbrev N1 : List Str := ["frame", "now", "found", "entry"]
theorem sc1 : FnScope N1 ["frame", "now"] (defScope s1) := ⟨rfl, rfl, rfl, by decide +kernel, rfl, by decide +kernel, by decide +kernel⟩
def b1 (call : Nat → MF) : MS := (sSeq (sSet 2 (mBin dIx (mVar 0) (mC (.int 0)))) (sSeq (sFor (gSet 3) (iSeq (mVar 0)) (sIf (tV (mBin dLe (mBin dIx (mVar 3) (mC (.int 0))) (mVar 1))) (sSet 2 (mVar 3)) sNil)) (sRet (mVar 2))))
theorem t1 {T : Tb} {n : Nat} {call : Nat → MF} (G : Gs T) (L : Lv T (6 * n) call) : DefAt T (6 * n + 6) ("shown_entry" : Str) 2 (mDef 2 2 (b1 call)) :=
  G.f1.at 2 2 sc1 rfl rfl fun f cdv A outer s H E c => have c0 : Cn T (6 * n) _ := c.mono (Nat.le_add_right _ 5); have hj : 6 * n + 1 ≤ 6 * n + 5 := Nat.add_le_add_left (by decide) _; (sx_cons (sx_set c 2 (ex_ix c (ex_var 0) ex_int))
      (sx_cons (sx_for c (ix_seqM c (ex_var 0)) (gx_name c 3)
      (sx_one (sx_if (tx_cmp op_leM (fun _ _ _ _ z => z) (ex_ix c (ex_var 3) ex_int) (ex_var 1) rfl) (sx_one (sx_set c 2 (ex_var 3))) sx_nil)))
      (sx_one (sx_ret (ex_var 2)))))
-- pruned
abbrev N2 : List Str := ["frame", "now", "left", "entry", "_", "state", "number"]
theorem sc2 : FnScope N2 ["frame", "now"] (defScope s2) := ⟨rfl, rfl, rfl, by decide +kernel, rfl, by decide +kernel, by decide +kernel⟩
def b2 (call : Nat → MF) : MS := (sSeq (sSet 2 (mLc (iSeq (mVar 0)) (gSet 3) (tV (mBin dLe (mBin dIx (mVar 3) (mC (.int 0))) (mVar 1))) (mVar 3) [3])) (sSeq (sIf (tV (mBin (dEq false) (mVar 2) (mLst aNil))) (sSeq (sAsg (gTupM 3 (gsCons (gSet 4) (gsCons (gSet 5) (gsCons (gSet 6) gsNil)))) (mBin dIx (mVar 0) (mC (.int 0)))) (sSet 2 (mLst (aCons (mTup (aCons (mUn dNeg (mC (.int 1))) (aCons (mVar 5) (aCons (mVar 6) aNil)))) aNil)))) sNil) (sRet (mCall (bTup) (aCons (mVar 2) aNil)))))
theorem t2 {T : Tb} {n : Nat} {call : Nat → MF} (G : Gs T) (L : Lv T (6 * n) call) : DefAt T (6 * n + 6) ("pruned" : Str) 2 (mDef 2 5 (b2 call)) :=
  G.f2.at 2 5 sc2 rfl rfl fun f cdv A outer s H E c => have c0 : Cn T (6 * n) _ := c.mono (Nat.le_add_right _ 5); have hj : 6 * n + 1 ≤ 6 * n + 5 := Nat.add_le_add_left (by decide) _; (sx_cons (by first | exact sx_setLc c [("entry", 3)] 2 (ix_seqM c (ex_var 0)) (blkOk_by (N := N2) (sc := defScope s2) (by decide +kernel)) (fun _ _ _ _ _ => (gx_name (Cn.blk c _ _ _ _ _) 3)) (fun _ _ _ _ _ => (tsx_one (tx_cmp op_leM (fun _ _ _ _ z => z) (ex_ix (Cn.blk c _ _ _ _ _) (ex_var 3) ex_int) (ex_var 1) rfl))) (fun _ _ _ _ _ => (ex_var 3)) (sw_true rfl rfl rfl (by decide +kernel)) | exact sx_set c 2 (ex_lc c [("entry", 3)] (ix_seqM c (ex_var 0)) (blkOk_by (N := N2) (sc := defScope s2) (by decide +kernel)) (fun _ _ _ _ _ => (gx_name (Cn.blk c _ _ _ _ _) 3)) (fun _ _ _ _ _ => (tsx_one (tx_cmp op_leM (fun _ _ _ _ z => z) (ex_ix (Cn.blk c _ _ _ _ _) (ex_var 3) ex_int) (ex_var 1) rfl))) (fun _ _ _ _ _ => (ex_var 3))))
      (sx_cons (sx_if (tx_cmp (op_eqM c) (fun _ _ _ _ z => z) (ex_var 2) (ex_lst ax_nil) rfl) (sx_cons (sx_asg (ex_ix c (ex_var 0) ex_int) (gx_tup c (gsx_cons (gx_name c 4) (gsx_cons (gx_name c 5) (gsx_cons (gx_name c 6) gsx_nil)))))
      (sx_one (sx_set c 2 (ex_lst (ax_cons (ex_tup (ax_cons (ex_neg ex_int) (ax_cons (ex_var 5) (ax_cons (ex_var 6) ax_nil)))) ax_nil))))) sx_nil)
      (sx_one (sx_ret (ex_callTy (call_tup2 c) (ax_cons (ex_var 2) ax_nil) (hm := G.n_tuple))))))
-- cut_off
abbrev N3 : List Str := ["frame", "first", "covers", "lesser", "entry", "left"]
theorem sc3 : FnScope N3 ["frame", "first", "covers"] (defScope s3) := ⟨rfl, rfl, rfl, by decide +kernel, rfl, by decide +kernel, by decide +kernel⟩
def b3 (call : Nat → MF) : MS := (sSeq (sSet 3 (mLc (iSeq (mVar 0)) (gSet 4) (tV (mBin dLt (mBin dIx (mVar 4) (mC (.int 0))) (mVar 1))) (mVar 4) [4])) (sSeq (sSet 5 (mLc (iSeq (mVar 0)) (gSet 4) (tV (mBin (dCmpI fun i j => PySem.W.Z.leB j i) (mBin dIx (mVar 4) (mC (.int 0))) (mVar 1))) (mVar 4) [4])) (sSeq (sIf (tAndM (tV (mBin (dEq true) (mVar 3) (mLst aNil))) (tOrM (tV (mBin (dEq false) (mVar 5) (mLst aNil))) (tAndM (tTru (mVar 2)) (tV (mBin (dCmpI fun i j => PySem.W.Z.ltB j i) (mBin dIx (mBin dIx (mVar 5) (mC (.int 0))) (mC (.int 0))) (mVar 1)))))) (sExpr (mBM fInsert (mVar 5) (aCons (mC (.int 0)) (aCons (mBin dIx (mVar 3) (mUn dNeg (mC (.int 1)))) aNil)))) sNil) (sRet (mCall (bTup) (aCons (mVar 5) aNil))))))
theorem t3 {T : Tb} {n : Nat} {call : Nat → MF} (G : Gs T) (L : Lv T (6 * n) call) : DefAt T (6 * n + 6) ("cut_off" : Str) 3 (mDef 3 3 (b3 call)) :=
  G.f3.at 3 3 sc3 rfl rfl fun f cdv A outer s H E c => have c0 : Cn T (6 * n) _ := c.mono (Nat.le_add_right _ 5); have hj : 6 * n + 1 ≤ 6 * n + 5 := Nat.add_le_add_left (by decide) _; (sx_cons (by first | exact sx_setLc c [("entry", 4)] 3 (ix_seqM c (ex_var 0)) (blkOk_by (N := N3) (sc := defScope s3) (by decide +kernel)) (fun _ _ _ _ _ => (gx_name (Cn.blk c _ _ _ _ _) 4)) (fun _ _ _ _ _ => (tsx_one (tx_cmp op_ltM (fun _ _ _ _ z => z) (ex_ix (Cn.blk c _ _ _ _ _) (ex_var 4) ex_int) (ex_var 1) rfl))) (fun _ _ _ _ _ => (ex_var 4)) (sw_true rfl rfl rfl (by decide +kernel)) | exact sx_set c 3 (ex_lc c [("entry", 4)] (ix_seqM c (ex_var 0)) (blkOk_by (N := N3) (sc := defScope s3) (by decide +kernel)) (fun _ _ _ _ _ => (gx_name (Cn.blk c _ _ _ _ _) 4)) (fun _ _ _ _ _ => (tsx_one (tx_cmp op_ltM (fun _ _ _ _ z => z) (ex_ix (Cn.blk c _ _ _ _ _) (ex_var 4) ex_int) (ex_var 1) rfl))) (fun _ _ _ _ _ => (ex_var 4))))
      (sx_cons (by first | exact sx_setLc c [("entry", 4)] 5 (ix_seqM c (ex_var 0)) (blkOk_by (N := N3) (sc := defScope s3) (by decide +kernel)) (fun _ _ _ _ _ => (gx_name (Cn.blk c _ _ _ _ _) 4)) (fun _ _ _ _ _ => (tsx_one (tx_cmp op_geM (fun _ _ _ _ z => z) (ex_ix (Cn.blk c _ _ _ _ _) (ex_var 4) ex_int) (ex_var 1) rfl))) (fun _ _ _ _ _ => (ex_var 4)) (sw_true rfl rfl rfl (by decide +kernel)) | exact sx_set c 5 (ex_lc c [("entry", 4)] (ix_seqM c (ex_var 0)) (blkOk_by (N := N3) (sc := defScope s3) (by decide +kernel)) (fun _ _ _ _ _ => (gx_name (Cn.blk c _ _ _ _ _) 4)) (fun _ _ _ _ _ => (tsx_one (tx_cmp op_geM (fun _ _ _ _ z => z) (ex_ix (Cn.blk c _ _ _ _ _) (ex_var 4) ex_int) (ex_var 1) rfl))) (fun _ _ _ _ _ => (ex_var 4))))
      (sx_cons (sx_if (PW.pt (tx_and (tx_cmp (op_neM c) (fun _ _ _ _ z => z) (ex_var 3) (ex_lst ax_nil) rfl) (tx_and1 (PW.pt (tx_or (tx_cmp (op_eqM c) (fun _ _ _ _ z => z) (ex_var 5) (ex_lst ax_nil) rfl) (tx_or1 (PW.pt (tx_and (tx_tru c (ex_var 2)) (tx_and1 (tx_cmp op_gtM (fun _ _ _ _ z => z) (ex_ix c (ex_ix c (ex_var 5) ex_int) ex_int) (ex_var 1) rfl)))))))))) (sx_one (sx_expr (ex_bm c PySem.F.slot_list_insert PySem.F.type_list_insert mt_insertM (ex_var 5) (ax_cons ex_int (ax_cons (ex_ix c (ex_var 3) (ex_neg ex_int)) ax_nil))))) sx_nil)
      (sx_one (sx_ret (ex_callTy (call_tup2 c) (ax_cons (ex_var 5) ax_nil) (hm := G.n_tuple)))))))
-- shifted_step
abbrev N4 : List Str := ["step", "gone", "lost"]
theorem sc4 : FnScope N4 ["step", "gone"] (defScope s4) := ⟨rfl, rfl, rfl, by decide +kernel, rfl, by decide +kernel, by decide +kernel⟩
def b4 (call : Nat → MF) : MS := (sRet (mBin dSub (mVar 0) (mCall (bLen) (aCons (mLc (iSeq (mVar 1)) (gSet 2) (tV (mBin dLe (mVar 2) (mVar 0))) (mVar 2) [2]) aNil))))
theorem t4 {T : Tb} {n : Nat} {call : Nat → MF} (G : Gs T) (L : Lv T (6 * n) call) : DefAt T (6 * n + 6) ("shifted_step" : Str) 2 (mDef 2 1 (b4 call)) :=
  G.f4.at 2 1 sc4 rfl rfl fun f cdv A outer s H E c => have c0 : Cn T (6 * n) _ := c.mono (Nat.le_add_right _ 5); have hj : 6 * n + 1 ≤ 6 * n + 5 := Nat.add_le_add_left (by decide) _; (sx_one (sx_ret (ex_op op_subM (fun _ _ _ _ z => z) (ex_var 0) (ex_callB (call_len4 c) (ax_cons (ex_lc c [("lost", 2)] (ix_seqM c (ex_var 1)) (blkOk_by (N := N4) (sc := defScope s4) (by decide +kernel)) (fun _ _ _ _ _ => (gx_name (Cn.blk c _ _ _ _ _) 2)) (fun _ _ _ _ _ => (tsx_one (tx_cmp op_leM (fun _ _ _ _ z => z) (ex_var 2) (ex_var 0) rfl))) (fun _ _ _ _ _ => (ex_var 2))) ax_nil) (hm := G.n_len)))))
-- shifted
abbrev N5 : List Str := ["frame", "gone", "step", "state", "number"]
theorem sc5 : FnScope N5 ["frame", "gone"] (defScope s5) := ⟨rfl, rfl, rfl, by decide +kernel, rfl, by decide +kernel, by decide +kernel⟩
def b5 (call : Nat → MF) : MS := (sRet (mCall (bTup) (aCons (mLc (iSeq (mVar 0)) (gTupM 3 (gsCons (gSet 2) (gsCons (gSet 3) (gsCons (gSet 4) gsNil)))) tYesM (mTup (aCons (mCallN 2 (call 4) (aCons (mVar 2) (aCons (mVar 1) aNil))) (aCons (mVar 3) (aCons (mVar 4) aNil)))) [2, 3, 4]) aNil)))
theorem t5 {T : Tb} {n : Nat} {call : Nat → MF} (G : Gs T) (L : Lv T (6 * n) call) : DefAt T (6 * n + 6) ("shifted" : Str) 2 (mDef 2 3 (b5 call)) :=
  G.f5.at 2 3 sc5 rfl rfl fun f cdv A outer s H E c => have c0 : Cn T (6 * n) _ := c.mono (Nat.le_add_right _ 5); have hj : 6 * n + 1 ≤ 6 * n + 5 := Nat.add_le_add_left (by decide) _; (sx_one (sx_ret (ex_callTy (call_tup2 c) (ax_cons (ex_lc c [("step", 2), ("state", 3), ("number", 4)] (ix_seqM c (ex_var 0)) (blkOk_by (N := N5) (sc := defScope s5) (by decide +kernel)) (fun _ _ _ _ _ => (gx_tup (Cn.blk c _ _ _ _ _) (gsx_cons (gx_name (Cn.blk c _ _ _ _ _) 2) (gsx_cons (gx_name (Cn.blk c _ _ _ _ _) 3) (gsx_cons (gx_name (Cn.blk c _ _ _ _ _) 4) gsx_nil))))) (fun _ _ _ _ _ => tsx_nil) (fun _ _ _ _ _ => (ex_tup (ax_cons (ex_call (Cn.blk c0 _ _ _ _ _) L.d4 (ax_cons (ex_var 2) (ax_cons (ex_var 1) ax_nil))) (ax_cons (ex_var 3) (ax_cons (ex_var 4) ax_nil)))))) ax_nil) (hm := G.n_tuple))))
-- without_states
abbrev N6 : List Str := ["frame", "staying", "step", "state", "number"]
theorem sc6 : FnScope N6 ["frame", "staying"] (defScope s6) := ⟨rfl, rfl, rfl, by decide +kernel, rfl, by decide +kernel, by decide +kernel⟩
def b6 (call : Nat → MF) : MS := (sRet (mCall (bTup) (aCons (mLc (iSeq (mVar 0)) (gTupM 3 (gsCons (gSet 2) (gsCons (gSet 3) (gsCons (gSet 4) gsNil)))) tYesM (mTup (aCons (mVar 2) (aCons (mIf (tV (mBin (dIn false) (mVar 4) (mVar 1))) (mVar 3) (mC (.int 0))) (aCons (mVar 4) aNil)))) [2, 3, 4]) aNil)))
theorem t6 {T : Tb} {n : Nat} {call : Nat → MF} (G : Gs T) (L : Lv T (6 * n) call) : DefAt T (6 * n + 6) ("without_states" : Str) 2 (mDef 2 3 (b6 call)) :=
  G.f6.at 2 3 sc6 rfl rfl fun f cdv A outer s H E c => have c0 : Cn T (6 * n) _ := c.mono (Nat.le_add_right _ 5); have hj : 6 * n + 1 ≤ 6 * n + 5 := Nat.add_le_add_left (by decide) _; (sx_one (sx_ret (ex_callTy (call_tup2 c) (ax_cons (ex_lc c [("step", 2), ("state", 3), ("number", 4)] (ix_seqM c (ex_var 0)) (blkOk_by (N := N6) (sc := defScope s6) (by decide +kernel)) (fun _ _ _ _ _ => (gx_tup (Cn.blk c _ _ _ _ _) (gsx_cons (gx_name (Cn.blk c _ _ _ _ _) 2) (gsx_cons (gx_name (Cn.blk c _ _ _ _ _) 3) (gsx_cons (gx_name (Cn.blk c _ _ _ _ _) 4) gsx_nil))))) (fun _ _ _ _ _ => tsx_nil) (fun _ _ _ _ _ => (ex_tup (ax_cons (ex_var 2) (ax_cons (ex_if (tx_cmp (op_inM (Cn.blk c _ _ _ _ _)) (fun _ _ _ _ z => z) (ex_var 4) (ex_var 1) rfl) (ex_var 3) ex_int) (ax_cons (ex_var 4) ax_nil)))))) ax_nil) (hm := G.n_tuple))))
-- first_browser
abbrev N7 : List Str := ["site", "cares", "browser"]
theorem sc7 : FnScope N7 ["site", "cares"] (defScope s7) := ⟨rfl, rfl, rfl, by decide +kernel, rfl, by decide +kernel, by decide +kernel⟩
def b7 (call : Nat → MF) : MS := (sSeq (sSet 2 (mMakeN 0 6 (call 8) (aCons (mVar 0) (aCons (mVar 1) (aCons (mTup (aCons (mC (.int 0)) (aCons (mC (.int 0)) (aCons (mC (.int 0)) aNil)))) (aCons (mTup (aCons (mTup (aCons (mUn dNeg (mC (.int 1))) (aCons (mC (.int 0)) (aCons (mC (.int 0)) aNil)))) aNil)) (aCons (mDisp (mpCons (mC (.int 0)) (mTup (aCons (mProp 1 (call 35) (mVar 0)) (aCons (mC (.bl false)) (aCons (mTup aNil) aNil)))) mpNil)) aNil))))))) (sSeq (sExpr (mMethN 0 (fun _ => false) 2 (call 13) (mVar 2) (aCons (mFld naM 4 (mVar 2)) aNil))) (sRet (mVar 2))))
theorem t7 {T : Tb} {n : Nat} {call : Nat → MF} (G : Gs T) (L : Lv T (6 * n) call) : DefAt T (6 * n + 6) ("first_browser" : Str) 2 (mDef 2 1 (b7 call)) :=
  G.f7.at 2 1 sc7 rfl rfl fun f cdv A outer s H E c => have c0 : Cn T (6 * n) _ := c.mono (Nat.le_add_right _ 5); have hj : 6 * n + 1 ≤ 6 * n + 5 := Nat.add_le_add_left (by decide) _; (sx_cons (sx_set c 2 (ex_make c hj L.d8 (ax_cons (ex_var 0) (ax_cons (ex_var 1) (ax_cons (ex_tup (ax_cons ex_int (ax_cons ex_int (ax_cons ex_int ax_nil)))) (ax_cons (ex_tup (ax_cons (ex_tup (ax_cons (ex_neg ex_int) (ax_cons ex_int (ax_cons ex_int ax_nil)))) ax_nil)) (ax_cons (ex_disp (dps_cons ex_int (ex_tup (ax_cons (ex_prop c hj L.d35 (ex_var 0)) (ax_cons ex_bl (ax_cons (ex_tup ax_nil) ax_nil)))) dps_nil)) ax_nil)))))))
      (sx_cons (sx_expr (ex_meth c0 L.d13 _ (fun f h _ => G.m_load f h) (ex_var 2) (ax_cons (ex_fld c G.fo 4 (ex_var 2) G.a_frame) ax_nil)))
      (sx_one (sx_ret (ex_var 2)))))
-- Browser.__init__
abbrev N8 : List Str := ["self", "site", "cares", "steps", "frame", "documents"]
theorem sc8 : FnScope N8 ["self", "site", "cares", "steps", "frame", "documents"] (defScope s8) := ⟨rfl, rfl, rfl, by decide +kernel, rfl, by decide +kernel, by decide +kernel⟩
def b8 (call : Nat → MF) : MS := (sSeq (sFldM naM 2 (mVar 0) (mVar 1)) (sSeq (sFldM naM 3 (mVar 0) (mVar 2)) (sSeq (sAsg (gTupM 3 (gsCons (gFld naM 9 (mVar 0)) (gsCons (gFld naM 8 (mVar 0)) (gsCons (gFld naM 7 (mVar 0)) gsNil)))) (mVar 3)) (sSeq (sFldM naM 4 (mVar 0) (mVar 4)) (sSeq (sFldM naM 5 (mVar 0) (mCall (bDict) (aCons (mVar 5) aNil))) (sFldM naM 6 (mVar 0) (mBin dAdd (mCall (bBest true) (aCons (mCall (bList) (aCons (mVar 5) aNil)) aNil)) (mC (.int 1)))))))))
theorem t8 {T : Tb} {n : Nat} {call : Nat → MF} (G : Gs T) (L : Lv T (6 * n) call) : MakeAt T (6 * n + 6) ("Browser" : Str) 0 6 (mDef 6 0 (b8 call)) :=
  G.f8.at 6 0 sc8 rfl rfl fun f cdv A outer s H E c => have c0 : Cn T (6 * n) _ := c.mono (Nat.le_add_right _ 5); have hj : 6 * n + 1 ≤ 6 * n + 5 := Nat.add_le_add_left (by decide) _; (sx_cons (sx_fld c G.fo 2 (ex_var 0) (ex_var 1) G.a__site)
      (sx_cons (sx_fld c G.fo 3 (ex_var 0) (ex_var 2) G.a__cares)
      (sx_cons (sx_asg (ex_var 3) (gx_tup c (gsx_cons (gx_fld c G.fo 9 (ex_var 0) G.a_first) (gsx_cons (gx_fld c G.fo 8 (ex_var 0) G.a_last) (gsx_cons (gx_fld c G.fo 7 (ex_var 0) G.a_now) gsx_nil)))))
      (sx_cons (sx_fld c G.fo 4 (ex_var 0) (ex_var 4) G.a_frame)
      (sx_cons (sx_fld c G.fo 5 (ex_var 0) (ex_callTy (call_dictM c) (ax_cons (ex_var 5) ax_nil) (hm := G.n_dict)) G.a_documents)
      (sx_one (sx_fld c G.fo 6 (ex_var 0) (ex_op (op_addM c) (fun _ _ _ _ z => z) (ex_callB (call_maxM c) (ax_cons (ex_callTy (call_list3 c) (ax_cons (ex_var 5) ax_nil) (hm := G.n_list)) ax_nil) (hm := G.n_max)) ex_int) G.a__fresh)))))))
-- Browser.after
abbrev N9 : List Str := ["self", "deed", "steps", "browser"]
theorem sc9 : FnScope N9 ["self", "deed"] (defScope s9) := ⟨rfl, rfl, rfl, by decide +kernel, rfl, by decide +kernel, by decide +kernel⟩
def b9 (call : Nat → MF) : MS := (sSeq (sSet 2 (mTup (aCons (mFld naM 9 (mVar 0)) (aCons (mFld naM 8 (mVar 0)) (aCons (mFld naM 7 (mVar 0)) aNil))))) (sSeq (sSet 3 (mMakeN 0 6 (call 8) (aCons (mFld naM 2 (mVar 0)) (aCons (mFld naM 3 (mVar 0)) (aCons (mVar 2) (aCons (mFld naM 4 (mVar 0)) (aCons (mFld naM 5 (mVar 0)) aNil))))))) (sSeq (sExpr (mMethN 0 (fun _ => false) 2 (call 10) (mVar 3) (aCons (mVar 1) aNil))) (sRet (mVar 3)))))
theorem t9 {T : Tb} {n : Nat} {call : Nat → MF} (G : Gs T) (L : Lv T (6 * n) call) : MethAt T (6 * n + 6) 0 ("after" : Str) 2 (mDef 2 2 (b9 call)) :=
  G.f9.at 2 2 sc9 rfl rfl fun f cdv A outer s H E c => have c0 : Cn T (6 * n) _ := c.mono (Nat.le_add_right _ 5); have hj : 6 * n + 1 ≤ 6 * n + 5 := Nat.add_le_add_left (by decide) _; (sx_cons (sx_set c 2 (ex_tup (ax_cons (ex_fld c G.fo 9 (ex_var 0) G.a_first) (ax_cons (ex_fld c G.fo 8 (ex_var 0) G.a_last) (ax_cons (ex_fld c G.fo 7 (ex_var 0) G.a_now) ax_nil)))))
      (sx_cons (sx_set c 3 (ex_make c hj L.d8 (ax_cons (ex_fld c G.fo 2 (ex_var 0) G.a__site) (ax_cons (ex_fld c G.fo 3 (ex_var 0) G.a__cares) (ax_cons (ex_var 2) (ax_cons (ex_fld c G.fo 4 (ex_var 0) G.a_frame) (ax_cons (ex_fld c G.fo 5 (ex_var 0) G.a_documents) ax_nil)))))))
      (sx_cons (sx_expr (ex_meth c0 L.d10 _ (fun f h _ => G.m_perform f h) (ex_var 3) (ax_cons (ex_var 1) ax_nil)))
      (sx_one (sx_ret (ex_var 3))))))
-- Browser.perform
abbrev N10 : List Str := ["self", "deed", "word"]
theorem sc10 : FnScope N10 ["self", "deed"] (defScope s10) := ⟨rfl, rfl, rfl, by decide +kernel, rfl, by decide +kernel, by decide +kernel⟩
def b10 (call : Nat → MF) : MS := (sSeq (sSet 2 (mBin dIx (mVar 1) (mC (.int 0)))) (sSeq (sIf (tV (mBin (dEq false) (mVar 2) (mC (.str [103, 111])))) (sExpr (mMethN 0 (fun _ => false) 3 (call 17) (mVar 0) (aCons (mBin dIx (mVar 1) (mC (.int 1))) (aCons (mBin dIx (mVar 1) (mC (.int 2))) aNil)))) (sIf (tV (mBin (dEq false) (mVar 2) (mC (.str [112, 117, 115, 104])))) (sExpr (mMethN 0 (fun _ => false) 2 (call 18) (mVar 0) (aCons (mBin dIx (mVar 1) (mC (.int 1))) aNil))) (sIf (tV (mBin (dEq false) (mVar 2) (mC (.str [98, 97, 99, 107])))) (sFldAugM naM 7 dSubI (mVar 0) (mC (.int 1))) (sIf (tV (mBin (dEq false) (mVar 2) (mC (.str [110, 101, 120, 116])))) (sFldAugM naM 7 dAddI (mVar 0) (mC (.int 1))) (sIf (tV (mBin (dEq false) (mVar 2) (mC (.str [100, 114, 111, 112])))) (sExpr (mMethN 0 (fun _ => false) 2 (call 21) (mVar 0) (aCons (mBin dIx (mVar 1) (mC (.int 1))) aNil))) (sIf (tV (mBin (dEq false) (mVar 2) (mC (.str [114, 101, 111, 112, 101, 110])))) (sExpr (mMethN 0 (fun _ => false) 2 (call 23) (mVar 0) (aCons (mLst aNil) aNil))) (sIf (tV (mBin (dIn true) (mC (.str [104, 111, 108, 100, 115])) (mFld naM 3 (mVar 0)))) (sExpr (mMethN 0 (fun _ => false) 2 (call 23) (mVar 0) (aCons (mMethN 0 (fun _ => false) 2 (call 28) (mVar 0) (aCons (mFld naM 4 (mVar 0)) aNil)) aNil))) sNil))))))) (sSeq (sExpr (mMethN 0 (fun _ => false) 1 (call 26) (mVar 0) aNil)) (sExpr (mMethN 0 (fun _ => false) 2 (call 13) (mVar 0) (aCons (mFld naM 4 (mVar 0)) aNil))))))
theorem t10 {T : Tb} {n : Nat} {call : Nat → MF} (G : Gs T) (L : Lv T (6 * n) call) : MethAt T (6 * n + 6) 0 ("perform" : Str) 2 (mDef 2 1 (b10 call)) :=
  G.f10.at 2 1 sc10 rfl rfl fun f cdv A outer s H E c => have c0 : Cn T (6 * n) _ := c.mono (Nat.le_add_right _ 5); have hj : 6 * n + 1 ≤ 6 * n + 5 := Nat.add_le_add_left (by decide) _; (sx_cons (sx_set c 2 (ex_ix c (ex_var 1) ex_int))
      (sx_cons (sx_if (tx_cmp (op_eqM c) (fun _ _ _ _ z => z) (ex_var 2) (ex_str [103, 111]) rfl) (sx_one (sx_expr (ex_meth c0 L.d17 _ (fun f h _ => G.m__go f h) (ex_var 0) (ax_cons (ex_ix c (ex_var 1) ex_int) (ax_cons (ex_ix c (ex_var 1) ex_int) ax_nil))))) (sx_one (sx_if (tx_cmp (op_eqM c) (fun _ _ _ _ z => z) (ex_var 2) (ex_str [112, 117, 115, 104]) rfl) (sx_one (sx_expr (ex_meth c0 L.d18 _ (fun f h _ => G.m__push f h) (ex_var 0) (ax_cons (ex_ix c (ex_var 1) ex_int) ax_nil)))) (sx_one (sx_if (tx_cmp (op_eqM c) (fun _ _ _ _ z => z) (ex_var 2) (ex_str [98, 97, 99, 107]) rfl) (sx_one (sx_fldaug c G.fo 7 (ex_var 0) ex_int in_subM G.a_now)) (sx_one (sx_if (tx_cmp (op_eqM c) (fun _ _ _ _ z => z) (ex_var 2) (ex_str [110, 101, 120, 116]) rfl) (sx_one (sx_fldaug c G.fo 7 (ex_var 0) ex_int in_addM G.a_now)) (sx_one (sx_if (tx_cmp (op_eqM c) (fun _ _ _ _ z => z) (ex_var 2) (ex_str [100, 114, 111, 112]) rfl) (sx_one (sx_expr (ex_meth c0 L.d21 _ (fun f h _ => G.m__drop f h) (ex_var 0) (ax_cons (ex_ix c (ex_var 1) ex_int) ax_nil)))) (sx_one (sx_if (tx_cmp (op_eqM c) (fun _ _ _ _ z => z) (ex_var 2) (ex_str [114, 101, 111, 112, 101, 110]) rfl) (sx_one (sx_expr (ex_meth c0 L.d23 _ (fun f h _ => G.m__throw_away f h) (ex_var 0) (ax_cons (ex_lst ax_nil) ax_nil)))) (sx_one (sx_if (tx_cmp (op_notinM c) (fun _ _ _ _ z => z) (ex_str [104, 111, 108, 100, 115]) (ex_fld c G.fo 3 (ex_var 0) G.a__cares) rfl) (sx_one (sx_expr (ex_meth c0 L.d23 _ (fun f h _ => G.m__throw_away f h) (ex_var 0) (ax_cons (ex_meth c0 L.d28 _ (fun f h _ => G.m__shown_numbers f h) (ex_var 0) (ax_cons (ex_fld c G.fo 4 (ex_var 0) G.a_frame) ax_nil)) ax_nil)))) sx_nil)))))))))))))
      (sx_cons (sx_expr (ex_meth0 c0 L.d26 _ (fun f h _ => G.m__forget f h) (ex_var 0)))
      (sx_one (sx_expr (ex_meth c0 L.d13 _ (fun f h _ => G.m_load f h) (ex_var 0) (ax_cons (ex_fld c G.fo 4 (ex_var 0) G.a_frame) ax_nil)))))))
-- Browser.step_counts
abbrev N11 : List Str := ["self"]
theorem sc11 : FnScope N11 ["self"] (defScope s11) := ⟨rfl, rfl, rfl, by decide +kernel, rfl, by decide +kernel, by decide +kernel⟩
def b11 (call : Nat → MF) : MS := (sRet (mTup (aCons (mBin dAdd (mBin dSub (mFld naM 8 (mVar 0)) (mFld naM 9 (mVar 0))) (mC (.int 1))) (aCons (mBin dSub (mFld naM 7 (mVar 0)) (mFld naM 9 (mVar 0))) aNil))))
theorem t11 {T : Tb} {n : Nat} {call : Nat → MF} (G : Gs T) (L : Lv T (6 * n) call) : MethAt T (6 * n + 6) 0 ("step_counts" : Str) 1 (mDef 1 0 (b11 call)) :=
  G.f11.at 1 0 sc11 rfl rfl fun f cdv A outer s H E c => have c0 : Cn T (6 * n) _ := c.mono (Nat.le_add_right _ 5); have hj : 6 * n + 1 ≤ 6 * n + 5 := Nat.add_le_add_left (by decide) _; (sx_one (sx_ret (ex_tup (ax_cons (ex_op (op_addM c) (fun _ _ _ _ z => z) (ex_op op_subM (fun _ _ _ _ z => z) (ex_fld c G.fo 8 (ex_var 0) G.a_last) (ex_fld c G.fo 9 (ex_var 0) G.a_first)) ex_int) (ax_cons (ex_op op_subM (fun _ _ _ _ z => z) (ex_fld c G.fo 7 (ex_var 0) G.a_now) (ex_fld c G.fo 9 (ex_var 0) G.a_first)) ax_nil)))))
-- Browser.view
abbrev N12 : List Str := ["self", "frame", "_", "state", "number", "address", "frames", "name", "inner"]
theorem sc12 : FnScope N12 ["self", "frame"] (defScope s12) := ⟨rfl, rfl, rfl, by decide +kernel, rfl, by decide +kernel, by decide +kernel⟩
def b12 (call : Nat → MF) : MS := (sSeq (sAsg (gTupM 3 (gsCons (gSet 2) (gsCons (gSet 3) (gsCons (gSet 4) gsNil)))) (mCallN 2 (call 1) (aCons (mVar 1) (aCons (mFld naM 7 (mVar 0)) aNil)))) (sSeq (sAsg (gTupM 3 (gsCons (gSet 5) (gsCons (gSet 2) (gsCons (gSet 6) gsNil)))) (mBin dGet (mFld naM 5 (mVar 0)) (mVar 4))) (sRet (mTup (aCons (mVar 5) (aCons (mVar 3) (aCons (mCall (bTup) (aCons (mLc (iSeq (mVar 6)) (gTupM 2 (gsCons (gSet 7) (gsCons (gSet 8) gsNil))) tYesM (mTup (aCons (mVar 7) (aCons (mMethN 0 (fun _ => false) 2 (call 12) (mVar 0) (aCons (mVar 8) aNil)) aNil))) [7, 8]) aNil)) aNil)))))))
theorem t12 {T : Tb} {n : Nat} {call : Nat → MF} (G : Gs T) (L : Lv T (6 * n) call) : MethAt T (6 * n + 6) 0 ("view" : Str) 2 (mDef 2 7 (b12 call)) :=
  G.f12.at 2 7 sc12 rfl rfl fun f cdv A outer s H E c => have c0 : Cn T (6 * n) _ := c.mono (Nat.le_add_right _ 5); have hj : 6 * n + 1 ≤ 6 * n + 5 := Nat.add_le_add_left (by decide) _; (sx_cons (sx_asg (ex_call c0 L.d1 (ax_cons (ex_var 1) (ax_cons (ex_fld c G.fo 7 (ex_var 0) G.a_now) ax_nil))) (gx_tup c (gsx_cons (gx_name c 2) (gsx_cons (gx_name c 3) (gsx_cons (gx_name c 4) gsx_nil)))))
      (sx_cons (sx_asg (ex_dget c (ex_fld c G.fo 5 (ex_var 0) G.a_documents) (ex_var 4)) (gx_tup c (gsx_cons (gx_name c 5) (gsx_cons (gx_name c 2) (gsx_cons (gx_name c 6) gsx_nil)))))
      (sx_one (sx_ret (ex_tup (ax_cons (ex_var 5) (ax_cons (ex_var 3) (ax_cons (ex_callTy (call_tup2 c) (ax_cons (ex_lc c [("name", 7), ("inner", 8)] (ix_seqM c (ex_var 6)) (blkOk_by (N := N12) (sc := defScope s12) (by decide +kernel)) (fun _ _ _ _ _ => (gx_tup (Cn.blk c _ _ _ _ _) (gsx_cons (gx_name (Cn.blk c _ _ _ _ _) 7) (gsx_cons (gx_name (Cn.blk c _ _ _ _ _) 8) gsx_nil)))) (fun _ _ _ _ _ => tsx_nil) (fun _ _ _ _ _ => (ex_tup (ax_cons (ex_var 7) (ax_cons (ex_meth (Cn.blk c0 _ _ _ _ _) L.d12 _ (fun f h _ => G.m_view f h) (ex_var 0) (ax_cons (ex_var 8) ax_nil)) ax_nil))))) ax_nil) (hm := G.n_tuple)) ax_nil))))))))
-- Browser.load
abbrev N13 : List Str := ["self", "frame", "number", "address", "kept", "frames", "_", "inner"]
theorem sc13 : FnScope N13 ["self", "frame"] (defScope s13) := ⟨rfl, rfl, rfl, by decide +kernel, rfl, by decide +kernel, by decide +kernel⟩
def b13 (call : Nat → MF) : MS := (sSeq (sSet 2 (mBin dIx (mCallN 2 (call 1) (aCons (mVar 1) (aCons (mFld naM 7 (mVar 0)) aNil))) (mC (.int 2)))) (sSeq (sAsg (gTupM 3 (gsCons (gSet 3) (gsCons (gSet 4) (gsCons (gSet 5) gsNil)))) (mBin dGet (mFld naM 5 (mVar 0)) (mVar 2))) (sSeq (sIf (tNotM (tTru (mVar 4))) (sSeq (sSet 5 (mMethN 0 (fun _ => false) 3 (call 14) (mVar 0) (aCons (mVar 3) (aCons (mVar 5) aNil)))) (sDput (mTup (aCons (mVar 3) (aCons (mC (.bl true)) (aCons (mVar 5) aNil)))) (mFld naM 5 (mVar 0)) (mVar 2))) sNil) (sFor (gTupM 2 (gsCons (gSet 6) (gsCons (gSet 7) gsNil))) (iSeq (mVar 5)) (sExpr (mMethN 0 (fun _ => false) 2 (call 13) (mVar 0) (aCons (mVar 7) aNil)))))))
theorem t13 {T : Tb} {n : Nat} {call : Nat → MF} (G : Gs T) (L : Lv T (6 * n) call) : MethAt T (6 * n + 6) 0 ("load" : Str) 2 (mDef 2 6 (b13 call)) :=
  G.f13.at 2 6 sc13 rfl rfl fun f cdv A outer s H E c => have c0 : Cn T (6 * n) _ := c.mono (Nat.le_add_right _ 5); have hj : 6 * n + 1 ≤ 6 * n + 5 := Nat.add_le_add_left (by decide) _; (sx_cons (sx_set c 2 (ex_ix c (ex_call c0 L.d1 (ax_cons (ex_var 1) (ax_cons (ex_fld c G.fo 7 (ex_var 0) G.a_now) ax_nil))) ex_int))
      (sx_cons (sx_asg (ex_dget c (ex_fld c G.fo 5 (ex_var 0) G.a_documents) (ex_var 2)) (gx_tup c (gsx_cons (gx_name c 3) (gsx_cons (gx_name c 4) (gsx_cons (gx_name c 5) gsx_nil)))))
      (sx_cons (sx_if (tx_not (tx_tru c (ex_var 4))) (sx_cons (sx_set c 5 (ex_meth c0 L.d14 _ (fun f h _ => G.m__loaded_frames f h) (ex_var 0) (ax_cons (ex_var 3) (ax_cons (ex_var 5) ax_nil))))
      (sx_one (sx_dput c (ex_fld c G.fo 5 (ex_var 0) G.a_documents) (ex_var 2) (ex_tup (ax_cons (ex_var 3) (ax_cons ex_bl (ax_cons (ex_var 5) ax_nil))))))) sx_nil)
      (sx_one (sx_for c (ix_seqM c (ex_var 5)) (gx_tup c (gsx_cons (gx_name c 6) (gsx_cons (gx_name c 7) gsx_nil)))
      (sx_one (sx_expr (ex_meth c0 L.d13 _ (fun f h _ => G.m_load f h) (ex_var 0) (ax_cons (ex_var 7) ax_nil)))))))))
-- Browser._loaded_frames
abbrev N14 : List Str := ["self", "address", "saved", "rows", "index", "name", "page", "found", "word", "frame", "_"]
theorem sc14 : FnScope N14 ["self", "address", "saved"] (defScope s14) := ⟨rfl, rfl, rfl, by decide +kernel, rfl, by decide +kernel, by decide +kernel⟩
def b14 (call : Nat → MF) : MS := (sSeq (sSet 3 (mLst aNil)) (sSeq (sFor (gTupM 2 (gsCons (gSet 4) (gsCons (gTupM 2 (gsCons (gSet 5) (gsCons (gSet 6) gsNil))) gsNil))) (iEnumM (aCons (mMethN 1 (fun _ => false) 2 (call 44) (mFld naM 2 (mVar 0)) (aCons (mVar 1) aNil)) aNil)) (sSeq (sIf (tV (mBin (dIn false) (mC (.str [110, 97, 109, 101, 115])) (mFld naM 3 (mVar 0)))) (sSet 7 (mLc (iSeq (mVar 2)) (gTupM 2 (gsCons (gSet 8) (gsCons (gSet 9) gsNil))) (tV (mBin (dEq false) (mVar 8) (mVar 5))) (mVar 9) [8, 9])) (sSet 7 (mLc (iSeq (mSlice (mVar 2) (some (mVar 4)) (some (mBin dAdd (mVar 4) (mC (.int 1)))))) (gTupM 2 (gsCons (gSet 10) (gsCons (gSet 9) gsNil))) tYesM (mVar 9) [10, 9]))) (sExpr (mBM fAppend (mVar 3) (aCons (mTup (aCons (mVar 5) (aCons (mIf (tV (mBin (dEq true) (mVar 7) (mLst aNil))) (mBin dIx (mVar 7) (mC (.int 0))) (mMethN 0 (fun _ => false) 2 (call 15) (mVar 0) (aCons (mVar 6) aNil))) aNil))) aNil))))) (sRet (mCall (bTup) (aCons (mVar 3) aNil)))))
theorem t14 {T : Tb} {n : Nat} {call : Nat → MF} (G : Gs T) (L : Lv T (6 * n) call) : MethAt T (6 * n + 6) 0 ("_loaded_frames" : Str) 3 (mDef 3 8 (b14 call)) :=
  G.f14.at 3 8 sc14 rfl rfl fun f cdv A outer s H E c => have c0 : Cn T (6 * n) _ := c.mono (Nat.le_add_right _ 5); have hj : 6 * n + 1 ≤ 6 * n + 5 := Nat.add_le_add_left (by decide) _; (sx_cons (sx_set c 3 (ex_lst ax_nil))
      (sx_cons (sx_for c (ix_enumM c (ax_cons (ex_meth c0 L.d44 _ (fun f h _ => G.m_frames_of f h) (ex_fld c G.fo 2 (ex_var 0) G.a__site) (ax_cons (ex_var 1) ax_nil)) ax_nil) (hm := G.n_enumerate)) (gx_tup c (gsx_cons (gx_name c 4) (gsx_cons (gx_tup c (gsx_cons (gx_name c 5) (gsx_cons (gx_name c 6) gsx_nil))) gsx_nil)))
      (sx_cons (sx_if (tx_cmp (op_inM c) (fun _ _ _ _ z => z) (ex_str [110, 97, 109, 101, 115]) (ex_fld c G.fo 3 (ex_var 0) G.a__cares) rfl) (sx_one (by first | exact sx_setLc c [("word", 8), ("frame", 9)] 7 (ix_seqM c (ex_var 2)) (blkOk_by (N := N14) (sc := defScope s14) (by decide +kernel)) (fun _ _ _ _ _ => (gx_tup (Cn.blk c _ _ _ _ _) (gsx_cons (gx_name (Cn.blk c _ _ _ _ _) 8) (gsx_cons (gx_name (Cn.blk c _ _ _ _ _) 9) gsx_nil)))) (fun _ _ _ _ _ => (tsx_one (tx_cmp (op_eqM (Cn.blk c _ _ _ _ _)) (fun _ _ _ _ z => z) (ex_var 8) (ex_var 5) rfl))) (fun _ _ _ _ _ => (ex_var 9)) (sw_true rfl rfl rfl (by decide +kernel)) | exact sx_set c 7 (ex_lc c [("word", 8), ("frame", 9)] (ix_seqM c (ex_var 2)) (blkOk_by (N := N14) (sc := defScope s14) (by decide +kernel)) (fun _ _ _ _ _ => (gx_tup (Cn.blk c _ _ _ _ _) (gsx_cons (gx_name (Cn.blk c _ _ _ _ _) 8) (gsx_cons (gx_name (Cn.blk c _ _ _ _ _) 9) gsx_nil)))) (fun _ _ _ _ _ => (tsx_one (tx_cmp (op_eqM (Cn.blk c _ _ _ _ _)) (fun _ _ _ _ z => z) (ex_var 8) (ex_var 5) rfl))) (fun _ _ _ _ _ => (ex_var 9))))) (sx_one (by first | exact sx_setLc c [("_", 10), ("frame", 9)] 7 (ix_seqM c (ex_slice c (ex_var 2) (ox_some (ex_var 4)) (ox_some (ex_op (op_addM c) (fun _ _ _ _ z => z) (ex_var 4) ex_int)))) (blkOk_by (N := N14) (sc := defScope s14) (by decide +kernel)) (fun _ _ _ _ _ => (gx_tup (Cn.blk c _ _ _ _ _) (gsx_cons (gx_name (Cn.blk c _ _ _ _ _) 10) (gsx_cons (gx_name (Cn.blk c _ _ _ _ _) 9) gsx_nil)))) (fun _ _ _ _ _ => tsx_nil) (fun _ _ _ _ _ => (ex_var 9)) (sw_true rfl rfl rfl (by decide +kernel)) | exact sx_set c 7 (ex_lc c [("_", 10), ("frame", 9)] (ix_seqM c (ex_slice c (ex_var 2) (ox_some (ex_var 4)) (ox_some (ex_op (op_addM c) (fun _ _ _ _ z => z) (ex_var 4) ex_int)))) (blkOk_by (N := N14) (sc := defScope s14) (by decide +kernel)) (fun _ _ _ _ _ => (gx_tup (Cn.blk c _ _ _ _ _) (gsx_cons (gx_name (Cn.blk c _ _ _ _ _) 10) (gsx_cons (gx_name (Cn.blk c _ _ _ _ _) 9) gsx_nil)))) (fun _ _ _ _ _ => tsx_nil) (fun _ _ _ _ _ => (ex_var 9))))))
      (sx_one (sx_expr (ex_bm c PySem.F.slot_list_append PySem.F.type_list_append mt_appendM (ex_var 3) (ax_cons (ex_tup (ax_cons (ex_var 5) (ax_cons (ex_if (tx_cmp (op_neM c) (fun _ _ _ _ z => z) (ex_var 7) (ex_lst ax_nil) rfl) (ex_ix c (ex_var 7) ex_int) (ex_meth c0 L.d15 _ (fun f h _ => G.m__first_frame f h) (ex_var 0) (ax_cons (ex_var 6) ax_nil))) ax_nil))) ax_nil))))))
      (sx_one (sx_ret (ex_callTy (call_tup2 c) (ax_cons (ex_var 3) ax_nil) (hm := G.n_tuple))))))
-- Browser._first_frame
abbrev N15 : List Str := ["self", "address"]
theorem sc15 : FnScope N15 ["self", "address"] (defScope s15) := ⟨rfl, rfl, rfl, by decide +kernel, rfl, by decide +kernel, by decide +kernel⟩
def b15 (call : Nat → MF) : MS := (sRet (mTup (aCons (mTup (aCons (mUn dNeg (mC (.int 1))) (aCons (mC (.int 0)) (aCons (mMethN 0 (fun _ => false) 2 (call 16) (mVar 0) (aCons (mVar 1) aNil)) aNil)))) aNil)))
theorem t15 {T : Tb} {n : Nat} {call : Nat → MF} (G : Gs T) (L : Lv T (6 * n) call) : MethAt T (6 * n + 6) 0 ("_first_frame" : Str) 2 (mDef 2 0 (b15 call)) :=
  G.f15.at 2 0 sc15 rfl rfl fun f cdv A outer s H E c => have c0 : Cn T (6 * n) _ := c.mono (Nat.le_add_right _ 5); have hj : 6 * n + 1 ≤ 6 * n + 5 := Nat.add_le_add_left (by decide) _; (sx_one (sx_ret (ex_tup (ax_cons (ex_tup (ax_cons (ex_neg ex_int) (ax_cons ex_int (ax_cons (ex_meth c0 L.d16 _ (fun f h _ => G.m__new_document f h) (ex_var 0) (ax_cons (ex_var 1) ax_nil)) ax_nil)))) ax_nil))))
-- Browser._new_document
abbrev N16 : List Str := ["self", "address", "number"]
theorem sc16 : FnScope N16 ["self", "address"] (defScope s16) := ⟨rfl, rfl, rfl, by decide +kernel, rfl, by decide +kernel, by decide +kernel⟩
def b16 (call : Nat → MF) : MS := (sSeq (sSet 2 (mFld naM 6 (mVar 0))) (sSeq (sFldAugM naM 6 dAddI (mVar 0) (mC (.int 1))) (sSeq (sDput (mTup (aCons (mVar 1) (aCons (mC (.bl false)) (aCons (mTup aNil) aNil)))) (mFld naM 5 (mVar 0)) (mVar 2)) (sRet (mVar 2)))))
theorem t16 {T : Tb} {n : Nat} {call : Nat → MF} (G : Gs T) (L : Lv T (6 * n) call) : MethAt T (6 * n + 6) 0 ("_new_document" : Str) 2 (mDef 2 1 (b16 call)) :=
  G.f16.at 2 1 sc16 rfl rfl fun f cdv A outer s H E c => have c0 : Cn T (6 * n) _ := c.mono (Nat.le_add_right _ 5); have hj : 6 * n + 1 ≤ 6 * n + 5 := Nat.add_le_add_left (by decide) _; (sx_cons (sx_set c 2 (ex_fld c G.fo 6 (ex_var 0) G.a__fresh))
      (sx_cons (sx_fldaug c G.fo 6 (ex_var 0) ex_int in_addM G.a__fresh)
      (sx_cons (sx_dput c (ex_fld c G.fo 5 (ex_var 0) G.a_documents) (ex_var 2) (ex_tup (ax_cons (ex_var 1) (ax_cons ex_bl (ax_cons (ex_tup ax_nil) ax_nil)))))
      (sx_one (sx_ret (ex_var 2))))))
-- Browser._go
abbrev N17 : List Str := ["self", "path", "address", "number", "frame", "shown", "rows", "entry"]
theorem sc17 : FnScope N17 ["self", "path", "address"] (defScope s17) := ⟨rfl, rfl, rfl, by decide +kernel, rfl, by decide +kernel, by decide +kernel⟩
def b17 (call : Nat → MF) : MS := (sSeq (sSet 3 (mMethN 0 (fun _ => false) 2 (call 16) (mVar 0) (aCons (mVar 2) aNil))) (sSeq (sIf (tOrM (tV (mBin (dEq false) (mVar 1) (mTup aNil))) (tV (mBin (dIn false) (mC (.str [106, 111, 105, 110, 116])) (mFld naM 3 (mVar 0))))) (sSeq (sExpr (mMethN 0 (fun _ => false) 4 (call 19) (mVar 0) (aCons (mVar 1) (aCons (mC (.int 0)) (aCons (mVar 3) aNil))))) sRetN) sNil) (sSeq (sSet 4 (mMethN 0 (fun _ => false) 2 (call 30) (mVar 0) (aCons (mVar 1) aNil))) (sSeq (sSet 5 (mCallN 2 (call 1) (aCons (mVar 4) (aCons (mFld naM 7 (mVar 0)) aNil)))) (sSeq (sSet 6 (mLc (iSeq (mVar 4)) (gSet 7) tYesM (mIf (tV (mBin (dEq false) (mVar 7) (mVar 5))) (mTup (aCons (mBin dIx (mVar 7) (mC (.int 0))) (aCons (mC (.int 0)) (aCons (mVar 3) aNil)))) (mVar 7)) [7])) (sExpr (mMethN 0 (fun _ => false) 3 (call 31) (mVar 0) (aCons (mVar 1) (aCons (mCall (bTup) (aCons (mVar 6) aNil)) aNil)))))))))
theorem t17 {T : Tb} {n : Nat} {call : Nat → MF} (G : Gs T) (L : Lv T (6 * n) call) : MethAt T (6 * n + 6) 0 ("_go" : Str) 3 (mDef 3 5 (b17 call)) :=
  G.f17.at 3 5 sc17 rfl rfl fun f cdv A outer s H E c => have c0 : Cn T (6 * n) _ := c.mono (Nat.le_add_right _ 5); have hj : 6 * n + 1 ≤ 6 * n + 5 := Nat.add_le_add_left (by decide) _; (sx_cons (sx_set c 3 (ex_meth c0 L.d16 _ (fun f h _ => G.m__new_document f h) (ex_var 0) (ax_cons (ex_var 2) ax_nil)))
      (sx_cons (sx_if (PW.pt (tx_or (tx_cmp (op_eqM c) (fun _ _ _ _ z => z) (ex_var 1) (ex_tup ax_nil) rfl) (tx_or1 (tx_cmp (op_inM c) (fun _ _ _ _ z => z) (ex_str [106, 111, 105, 110, 116]) (ex_fld c G.fo 3 (ex_var 0) G.a__cares) rfl)))) (sx_cons (sx_expr (ex_meth c0 L.d19 _ (fun f h _ => G.m__add_entry f h) (ex_var 0) (ax_cons (ex_var 1) (ax_cons ex_int (ax_cons (ex_var 3) ax_nil)))))
      (sx_one sx_retN)) sx_nil)
      (sx_cons (sx_set c 4 (ex_meth c0 L.d30 _ (fun f h _ => G.m__frame_at f h) (ex_var 0) (ax_cons (ex_var 1) ax_nil)))
      (sx_cons (sx_set c 5 (ex_call c0 L.d1 (ax_cons (ex_var 4) (ax_cons (ex_fld c G.fo 7 (ex_var 0) G.a_now) ax_nil))))
      (sx_cons (by first | exact sx_setLc c [("entry", 7)] 6 (ix_seqM c (ex_var 4)) (blkOk_by (N := N17) (sc := defScope s17) (by decide +kernel)) (fun _ _ _ _ _ => (gx_name (Cn.blk c _ _ _ _ _) 7)) (fun _ _ _ _ _ => tsx_nil) (fun _ _ _ _ _ => (ex_if (tx_cmp (op_eqM (Cn.blk c _ _ _ _ _)) (fun _ _ _ _ z => z) (ex_var 7) (ex_var 5) rfl) (ex_tup (ax_cons (ex_ix (Cn.blk c _ _ _ _ _) (ex_var 7) ex_int) (ax_cons ex_int (ax_cons (ex_var 3) ax_nil)))) (ex_var 7))) (sw_true rfl rfl rfl (by decide +kernel)) | exact sx_set c 6 (ex_lc c [("entry", 7)] (ix_seqM c (ex_var 4)) (blkOk_by (N := N17) (sc := defScope s17) (by decide +kernel)) (fun _ _ _ _ _ => (gx_name (Cn.blk c _ _ _ _ _) 7)) (fun _ _ _ _ _ => tsx_nil) (fun _ _ _ _ _ => (ex_if (tx_cmp (op_eqM (Cn.blk c _ _ _ _ _)) (fun _ _ _ _ z => z) (ex_var 7) (ex_var 5) rfl) (ex_tup (ax_cons (ex_ix (Cn.blk c _ _ _ _ _) (ex_var 7) ex_int) (ax_cons ex_int (ax_cons (ex_var 3) ax_nil)))) (ex_var 7)))))
      (sx_one (sx_expr (ex_meth c0 L.d31 _ (fun f h _ => G.m__put_frame f h) (ex_var 0) (ax_cons (ex_var 1) (ax_cons (ex_callTy (call_tup2 c) (ax_cons (ex_var 6) ax_nil) (hm := G.n_tuple)) ax_nil))))))))))
-- Browser._push
abbrev N18 : List Str := ["self", "path", "_", "state", "number"]
theorem sc18 : FnScope N18 ["self", "path"] (defScope s18) := ⟨rfl, rfl, rfl, by decide +kernel, rfl, by decide +kernel, by decide +kernel⟩
def b18 (call : Nat → MF) : MS := (sSeq (sAsg (gTupM 3 (gsCons (gSet 2) (gsCons (gSet 3) (gsCons (gSet 4) gsNil)))) (mCallN 2 (call 1) (aCons (mMethN 0 (fun _ => false) 2 (call 30) (mVar 0) (aCons (mVar 1) aNil)) (aCons (mFld naM 7 (mVar 0)) aNil)))) (sSeq (sIf (tV (mBin (dIn true) (mC (.str [115, 104, 97, 114, 101, 115])) (mFld naM 3 (mVar 0)))) (sSet 4 (mMethN 0 (fun _ => false) 2 (call 16) (mVar 0) (aCons (mBin dIx (mBin dGet (mFld naM 5 (mVar 0)) (mVar 4)) (mC (.int 0))) aNil))) sNil) (sExpr (mMethN 0 (fun _ => false) 4 (call 19) (mVar 0) (aCons (mVar 1) (aCons (mBin dSub (mC (.int 1)) (mVar 3)) (aCons (mVar 4) aNil)))))))
theorem t18 {T : Tb} {n : Nat} {call : Nat → MF} (G : Gs T) (L : Lv T (6 * n) call) : MethAt T (6 * n + 6) 0 ("_push" : Str) 2 (mDef 2 3 (b18 call)) :=
  G.f18.at 2 3 sc18 rfl rfl fun f cdv A outer s H E c => have c0 : Cn T (6 * n) _ := c.mono (Nat.le_add_right _ 5); have hj : 6 * n + 1 ≤ 6 * n + 5 := Nat.add_le_add_left (by decide) _; (sx_cons (sx_asg (ex_call c0 L.d1 (ax_cons (ex_meth c0 L.d30 _ (fun f h _ => G.m__frame_at f h) (ex_var 0) (ax_cons (ex_var 1) ax_nil)) (ax_cons (ex_fld c G.fo 7 (ex_var 0) G.a_now) ax_nil))) (gx_tup c (gsx_cons (gx_name c 2) (gsx_cons (gx_name c 3) (gsx_cons (gx_name c 4) gsx_nil)))))
      (sx_cons (sx_if (tx_cmp (op_notinM c) (fun _ _ _ _ z => z) (ex_str [115, 104, 97, 114, 101, 115]) (ex_fld c G.fo 3 (ex_var 0) G.a__cares) rfl) (sx_one (sx_set c 4 (ex_meth c0 L.d16 _ (fun f h _ => G.m__new_document f h) (ex_var 0) (ax_cons (ex_ix c (ex_dget c (ex_fld c G.fo 5 (ex_var 0) G.a_documents) (ex_var 4)) ex_int) ax_nil)))) sx_nil)
      (sx_one (sx_expr (ex_meth c0 L.d19 _ (fun f h _ => G.m__add_entry f h) (ex_var 0) (ax_cons (ex_var 1) (ax_cons (ex_op op_subM (fun _ _ _ _ z => z) ex_int (ex_var 3)) (ax_cons (ex_var 4) ax_nil))))))))
-- Browser._add_entry
abbrev N19 : List Str := ["self", "path", "state", "number", "now"]
theorem sc19 : FnScope N19 ["self", "path", "state", "number"] (defScope s19) := ⟨rfl, rfl, rfl, by decide +kernel, rfl, by decide +kernel, by decide +kernel⟩
def b19 (call : Nat → MF) : MS := (sSeq (sSet 4 (mFld naM 7 (mVar 0))) (sSeq (sIf (tV (mBin (dIn false) (mC (.str [112, 114, 117, 110, 101, 115])) (mFld naM 3 (mVar 0)))) (sExpr (mMethL 0 (fun _ => false) (fun g => mDefL 6 (b24 g call)) (mCallN 2 (call 2) (aCons (mVar 0) (aCons (mVar 1) aNil))) [4] (mVar 0))) (sExpr (mMethN 0 (fun _ => false) 3 (call 31) (mVar 0) (aCons (mVar 1) (aCons (mCallN 2 (call 2) (aCons (mMethN 0 (fun _ => false) 2 (call 30) (mVar 0) (aCons (mVar 1) aNil)) (aCons (mVar 4) aNil))) aNil))))) (sSeq (sExpr (mMethN 0 (fun _ => false) 3 (call 31) (mVar 0) (aCons (mVar 1) (aCons (mBin dAdd (mMethN 0 (fun _ => false) 2 (call 30) (mVar 0) (aCons (mVar 1) aNil)) (mTup (aCons (mTup (aCons (mBin dAdd (mVar 4) (mC (.int 1))) (aCons (mVar 2) (aCons (mVar 3) aNil)))) aNil))) aNil)))) (sSeq (sAsg2 (gFld naM 7 (mVar 0)) (gFld naM 8 (mVar 0)) (mBin dAdd (mVar 4) (mC (.int 1)))) (sIf (tV (mBin (dCmpI fun i j => PySem.W.Z.ltB j i) (mBin dAdd (mBin dSub (mFld naM 8 (mVar 0)) (mFld naM 9 (mVar 0))) (mC (.int 1))) (mProp 1 (call 36) (mFld naM 2 (mVar 0))))) (sExpr (mMethN 0 (fun _ => false) 1 (call 20) (mVar 0) aNil)) sNil)))))
theorem t19 {T : Tb} {n : Nat} {call : Nat → MF} (G : Gs T) (L : Lv T (6 * n) call) (LL : LLv T (6 * n) call) : MethAt T (6 * n + 6) 0 ("_add_entry" : Str) 4 (mDef 4 1 (b19 call)) :=
  G.f19.atC G.tb19 4 1 sc19 rfl rfl fun cc P tb f A outer s H E c => have c0 : Cn T (6 * n) _ := c.mono (Nat.le_add_right _ 5); have hj : 6 * n + 1 ≤ 6 * n + 5 := Nat.add_le_add_left (by decide) _; (sx_cons (sx_set c 4 (ex_fld c G.fo 7 (ex_var 0) G.a_now))
      (sx_cons (sx_if (tx_cmp (op_inM c) (fun _ _ _ _ z => z) (ex_str [112, 114, 117, 110, 101, 115]) (ex_fld c G.fo 3 (ex_var 0) G.a__cares) rfl) (sx_one (sx_expr (ex_methLam (p := "frame") (fr := ["now"]) c (fun _ => rfl) (tL24 G LL) (Nat.le_succ _) tb rfl _ (fun f h _ => G.m__change_frames f h) [4] (ex_var 0) (NdefX.nscope_by (by decide +kernel)) (fun b a cd cv ac aq up cl A outer s H E c => have G : Gs (T.reb b a cd cv ac aq) := G.reb up; have L : Lv (T.reb b a cd cv ac aq) (6 * n) call := LL b a cd cv ac aq up; have c0 : Cn (T.reb b a cd cv ac aq) (6 * n) _ := c.mono (Nat.le_add_right _ 2); (ex_call c0 L.d2 (ax_cons (ex_var 0) (ax_cons (ex_var 1) ax_nil))))))) (sx_one (sx_expr (ex_meth c0 L.d31 _ (fun f h _ => G.m__put_frame f h) (ex_var 0) (ax_cons (ex_var 1) (ax_cons (ex_call c0 L.d2 (ax_cons (ex_meth c0 L.d30 _ (fun f h _ => G.m__frame_at f h) (ex_var 0) (ax_cons (ex_var 1) ax_nil)) (ax_cons (ex_var 4) ax_nil))) ax_nil))))))
      (sx_cons (sx_expr (ex_meth c0 L.d31 _ (fun f h _ => G.m__put_frame f h) (ex_var 0) (ax_cons (ex_var 1) (ax_cons (ex_op (op_addM c) (fun _ _ _ _ z => z) (ex_meth c0 L.d30 _ (fun f h _ => G.m__frame_at f h) (ex_var 0) (ax_cons (ex_var 1) ax_nil)) (ex_tup (ax_cons (ex_tup (ax_cons (ex_op (op_addM c) (fun _ _ _ _ z => z) (ex_var 4) ex_int) (ax_cons (ex_var 2) (ax_cons (ex_var 3) ax_nil)))) ax_nil))) ax_nil))))
      (sx_cons (sx_asg2 (ex_op (op_addM c) (fun _ _ _ _ z => z) (ex_var 4) ex_int) (gx_fld c G.fo 7 (ex_var 0) G.a_now) (gx_fld c G.fo 8 (ex_var 0) G.a_last))
      (sx_one (sx_if (tx_cmp op_gtM (fun _ _ _ _ z => z) (ex_op (op_addM c) (fun _ _ _ _ z => z) (ex_op op_subM (fun _ _ _ _ z => z) (ex_fld c G.fo 8 (ex_var 0) G.a_last) (ex_fld c G.fo 9 (ex_var 0) G.a_first)) ex_int) (ex_prop c hj L.d36 (ex_fld c G.fo 2 (ex_var 0) G.a__site)) rfl) (sx_one (sx_expr (ex_meth0 c0 L.d20 _ (fun f h _ => G.m__cut_first f h) (ex_var 0)))) sx_nil))))))
-- Browser._cut_first
abbrev N20 : List Str := ["self", "first", "covers"]
theorem sc20 : FnScope N20 ["self"] (defScope s20) := ⟨rfl, rfl, rfl, by decide +kernel, rfl, by decide +kernel, by decide +kernel⟩
def b20 (call : Nat → MF) : MS := (sSeq (sFldAugM naM 9 dAddI (mVar 0) (mC (.int 1))) (sSeq (sSet 1 (mFld naM 9 (mVar 0))) (sSeq (sSet 2 (mBin (dIn false) (mC (.str [99, 111, 118, 101, 114, 115])) (mFld naM 3 (mVar 0)))) (sExpr (mMethL 0 (fun _ => false) (fun g => mDefL 6 (b24 g call)) (mCallN 3 (call 3) (aCons (mVar 0) (aCons (mVar 1) (aCons (mVar 2) aNil)))) [1, 2] (mVar 0))))))
theorem t20 {T : Tb} {n : Nat} {call : Nat → MF} (G : Gs T) (L : Lv T (6 * n) call) (LL : LLv T (6 * n) call) : MethAt T (6 * n + 6) 0 ("_cut_first" : Str) 1 (mDef 1 2 (b20 call)) :=
  G.f20.atC G.tb20 1 2 sc20 rfl rfl fun cc P tb f A outer s H E c => have c0 : Cn T (6 * n) _ := c.mono (Nat.le_add_right _ 5); have hj : 6 * n + 1 ≤ 6 * n + 5 := Nat.add_le_add_left (by decide) _; (sx_cons (sx_fldaug c G.fo 9 (ex_var 0) ex_int in_addM G.a_first)
      (sx_cons (sx_set c 1 (ex_fld c G.fo 9 (ex_var 0) G.a_first))
      (sx_cons (sx_set c 2 (ex_cmp (op_inM c) (fun _ _ _ _ z => z) (ex_str [99, 111, 118, 101, 114, 115]) (ex_fld c G.fo 3 (ex_var 0) G.a__cares) rfl))
      (sx_one (sx_expr (ex_methLam (p := "frame") (fr := ["first", "covers"]) c (fun _ => rfl) (tL24 G LL) (Nat.le_succ _) tb rfl _ (fun f h _ => G.m__change_frames f h) [1, 2] (ex_var 0) (NdefX.nscope_by (by decide +kernel)) (fun b a cd cv ac aq up cl A outer s H E c => have G : Gs (T.reb b a cd cv ac aq) := G.reb up; have L : Lv (T.reb b a cd cv ac aq) (6 * n) call := LL b a cd cv ac aq up; have c0 : Cn (T.reb b a cd cv ac aq) (6 * n) _ := c.mono (Nat.le_add_right _ 2); (ex_call c0 L.d3 (ax_cons (ex_var 0) (ax_cons (ex_var 1) (ax_cons (ex_var 2) ax_nil)))))))))))
-- Browser._drop
abbrev N21 : List Str := ["self", "path", "number", "address", "kept", "frames", "left", "name", "frame"]
theorem sc21 : FnScope N21 ["self", "path"] (defScope s21) := ⟨rfl, rfl, rfl, by decide +kernel, rfl, by decide +kernel, by decide +kernel⟩
def b21 (call : Nat → MF) : MS := (sSeq (sSet 2 (mMethN 0 (fun _ => false) 2 (call 29) (mVar 0) (aCons (mSlice (mVar 1) none (some (mUn dNeg (mC (.int 1))))) aNil))) (sSeq (sAsg (gTupM 3 (gsCons (gSet 3) (gsCons (gSet 4) (gsCons (gSet 5) gsNil)))) (mBin dGet (mFld naM 5 (mVar 0)) (mVar 2))) (sSeq (sSet 6 (mLc (iSeq (mVar 5)) (gTupM 2 (gsCons (gSet 7) (gsCons (gSet 8) gsNil))) (tV (mBin (dEq true) (mVar 7) (mBin dIx (mVar 1) (mUn dNeg (mC (.int 1)))))) (mTup (aCons (mVar 7) (aCons (mVar 8) aNil))) [7, 8])) (sSeq (sDput (mTup (aCons (mVar 3) (aCons (mVar 4) (aCons (mCall (bTup) (aCons (mVar 6) aNil)) aNil)))) (mFld naM 5 (mVar 0)) (mVar 2)) (sIf (tV (mBin (dIn false) (mC (.str [109, 101, 114, 103, 101, 115])) (mFld naM 3 (mVar 0)))) (sSeq (sExpr (mMethN 0 (fun _ => false) 1 (call 26) (mVar 0) aNil)) (sExpr (mMethN 0 (fun _ => false) 1 (call 22) (mVar 0) aNil))) sNil)))))
theorem t21 {T : Tb} {n : Nat} {call : Nat → MF} (G : Gs T) (L : Lv T (6 * n) call) : MethAt T (6 * n + 6) 0 ("_drop" : Str) 2 (mDef 2 7 (b21 call)) :=
  G.f21.at 2 7 sc21 rfl rfl fun f cdv A outer s H E c => have c0 : Cn T (6 * n) _ := c.mono (Nat.le_add_right _ 5); have hj : 6 * n + 1 ≤ 6 * n + 5 := Nat.add_le_add_left (by decide) _; (sx_cons (sx_set c 2 (ex_meth c0 L.d29 _ (fun f h _ => G.m__number_at f h) (ex_var 0) (ax_cons (ex_slice c (ex_var 1) ox_none (ox_some (ex_neg ex_int))) ax_nil)))
      (sx_cons (sx_asg (ex_dget c (ex_fld c G.fo 5 (ex_var 0) G.a_documents) (ex_var 2)) (gx_tup c (gsx_cons (gx_name c 3) (gsx_cons (gx_name c 4) (gsx_cons (gx_name c 5) gsx_nil)))))
      (sx_cons (by first | exact sx_setLc c [("name", 7), ("frame", 8)] 6 (ix_seqM c (ex_var 5)) (blkOk_by (N := N21) (sc := defScope s21) (by decide +kernel)) (fun _ _ _ _ _ => (gx_tup (Cn.blk c _ _ _ _ _) (gsx_cons (gx_name (Cn.blk c _ _ _ _ _) 7) (gsx_cons (gx_name (Cn.blk c _ _ _ _ _) 8) gsx_nil)))) (fun _ _ _ _ _ => (tsx_one (tx_cmp (op_neM (Cn.blk c _ _ _ _ _)) (fun _ _ _ _ z => z) (ex_var 7) (ex_ix (Cn.blk c _ _ _ _ _) (ex_var 1) (ex_neg ex_int)) rfl))) (fun _ _ _ _ _ => (ex_tup (ax_cons (ex_var 7) (ax_cons (ex_var 8) ax_nil)))) (sw_true rfl rfl rfl (by decide +kernel)) | exact sx_set c 6 (ex_lc c [("name", 7), ("frame", 8)] (ix_seqM c (ex_var 5)) (blkOk_by (N := N21) (sc := defScope s21) (by decide +kernel)) (fun _ _ _ _ _ => (gx_tup (Cn.blk c _ _ _ _ _) (gsx_cons (gx_name (Cn.blk c _ _ _ _ _) 7) (gsx_cons (gx_name (Cn.blk c _ _ _ _ _) 8) gsx_nil)))) (fun _ _ _ _ _ => (tsx_one (tx_cmp (op_neM (Cn.blk c _ _ _ _ _)) (fun _ _ _ _ z => z) (ex_var 7) (ex_ix (Cn.blk c _ _ _ _ _) (ex_var 1) (ex_neg ex_int)) rfl))) (fun _ _ _ _ _ => (ex_tup (ax_cons (ex_var 7) (ax_cons (ex_var 8) ax_nil))))))
      (sx_cons (sx_dput c (ex_fld c G.fo 5 (ex_var 0) G.a_documents) (ex_var 2) (ex_tup (ax_cons (ex_var 3) (ax_cons (ex_var 4) (ax_cons (ex_callTy (call_tup2 c) (ax_cons (ex_var 6) ax_nil) (hm := G.n_tuple)) ax_nil)))))
      (sx_one (sx_if (tx_cmp (op_inM c) (fun _ _ _ _ z => z) (ex_str [109, 101, 114, 103, 101, 115]) (ex_fld c G.fo 3 (ex_var 0) G.a__cares) rfl) (sx_cons (sx_expr (ex_meth0 c0 L.d26 _ (fun f h _ => G.m__forget f h) (ex_var 0)))
      (sx_one (sx_expr (ex_meth0 c0 L.d22 _ (fun f h _ => G.m__merge_steps f h) (ex_var 0))))) sx_nil))))))
-- Browser._merge_steps
abbrev N22 : List Str := ["self", "used", "frame", "step", "_", "gone"]
theorem sc22 : FnScope N22 ["self"] (defScope s22) := ⟨rfl, rfl, rfl, by decide +kernel, rfl, by decide +kernel, by decide +kernel⟩
def b22 (call : Nat → MF) : MS := (sSeq (sSet 1 (mTop (.dK false []) (iSeq (mMethN 0 (fun _ => false) 1 (call 25) (mVar 0) aNil)) (gSet 2) tYesM (mCl (iSeq (mVar 2)) (gTupM 3 (gsCons (gSet 3) (gsCons (gSet 4) (gsCons (gSet 4) gsNil)))) tYesM (uPut (mVar 3) (mC (.bl true))) [3, 4]) [2, 3, 4])) (sSeq (sSet 5 (mLc (iRng2M (aCons (mBin dAdd (mFld naM 9 (mVar 0)) (mC (.int 1))) (aCons (mBin dAdd (mFld naM 8 (mVar 0)) (mC (.int 1))) aNil))) (gSet 3) (tV (mBin (dHas true) (mVar 3) (mVar 1))) (mVar 3) [3])) (sSeq (sExpr (mMethL 0 (fun _ => false) (fun g => mDefL 6 (b24 g call)) (mCallN 2 (call 5) (aCons (mVar 0) (aCons (mVar 1) aNil))) [5] (mVar 0))) (sSeq (sFldM naM 7 (mVar 0) (mCallN 2 (call 4) (aCons (mFld naM 7 (mVar 0)) (aCons (mVar 5) aNil)))) (sFldM naM 8 (mVar 0) (mCallN 2 (call 4) (aCons (mFld naM 8 (mVar 0)) (aCons (mVar 5) aNil))))))))
theorem t22 {T : Tb} {n : Nat} {call : Nat → MF} (G : Gs T) (L : Lv T (6 * n) call) (LL : LLv T (6 * n) call) : MethAt T (6 * n + 6) 0 ("_merge_steps" : Str) 1 (mDef 1 5 (b22 call)) :=
  G.f22.atC G.tb22 1 5 sc22 rfl rfl fun cc P tb f A outer s H E c => have c0 : Cn T (6 * n) _ := c.mono (Nat.le_add_right _ 5); have hj : 6 * n + 1 ≤ 6 * n + 5 := Nat.add_le_add_left (by decide) _; (sx_cons (by first | exact sx_setDcM c [("frame", 2), ("step", 3), ("_", 4)] 1 (ix_seqM c (ex_meth0 c0 L.d25 _ (fun f h _ => G.m__all_frames f h) (ex_var 0))) (blkOk_by (N := N22) (sc := defScope s22) (by decide +kernel)) (fun _ _ _ _ _ => (gx_name (Cn.blk c _ _ _ _ _) 2)) (fun _ _ _ _ _ => tsx_nil) (fun _ _ _ _ _ _ => (un_lastD (Cn.blk c _ _ _ _ _) (ix_seqM (Cn.blk c _ _ _ _ _) (ex_var 2)) (gx_tup (Cn.blk c _ _ _ _ _) (gsx_cons (gx_name (Cn.blk c _ _ _ _ _) 3) (gsx_cons (gx_name (Cn.blk c _ _ _ _ _) 4) (gsx_cons (gx_name (Cn.blk c _ _ _ _ _) 4) gsx_nil)))) tsx_nil (ex_var 3) ex_bl)) (swd_true rfl rfl rfl (by decide +kernel)) | exact sx_set c 1 (ex_dcM c [("frame", 2), ("step", 3), ("_", 4)] (ix_seqM c (ex_meth0 c0 L.d25 _ (fun f h _ => G.m__all_frames f h) (ex_var 0))) (blkOk_by (N := N22) (sc := defScope s22) (by decide +kernel)) (fun _ _ _ _ _ => (gx_name (Cn.blk c _ _ _ _ _) 2)) (fun _ _ _ _ _ => tsx_nil) (fun _ _ _ _ _ _ => (un_lastD (Cn.blk c _ _ _ _ _) (ix_seqM (Cn.blk c _ _ _ _ _) (ex_var 2)) (gx_tup (Cn.blk c _ _ _ _ _) (gsx_cons (gx_name (Cn.blk c _ _ _ _ _) 3) (gsx_cons (gx_name (Cn.blk c _ _ _ _ _) 4) (gsx_cons (gx_name (Cn.blk c _ _ _ _ _) 4) gsx_nil)))) tsx_nil (ex_var 3) ex_bl))))
      (sx_cons (by first | exact sx_setLc c [("step", 3)] 5 (ix_rng2 (ax_cons (ex_op (op_addM c) (fun _ _ _ _ z => z) (ex_fld c G.fo 9 (ex_var 0) G.a_first) ex_int) (ax_cons (ex_op (op_addM c) (fun _ _ _ _ z => z) (ex_fld c G.fo 8 (ex_var 0) G.a_last) ex_int) ax_nil)) (hm := G.n_range)) (blkOk_by (N := N22) (sc := defScope s22) (by decide +kernel)) (fun _ _ _ _ _ => (gx_name (Cn.blk c _ _ _ _ _) 3)) (fun _ _ _ _ _ => (tsx_one (tx_dnotin (Cn.blk c _ _ _ _ _) (ex_var 3) (ex_var 1)))) (fun _ _ _ _ _ => (ex_var 3)) (sw_true rfl rfl rfl (by decide +kernel)) | exact sx_set c 5 (ex_lc c [("step", 3)] (ix_rng2 (ax_cons (ex_op (op_addM c) (fun _ _ _ _ z => z) (ex_fld c G.fo 9 (ex_var 0) G.a_first) ex_int) (ax_cons (ex_op (op_addM c) (fun _ _ _ _ z => z) (ex_fld c G.fo 8 (ex_var 0) G.a_last) ex_int) ax_nil)) (hm := G.n_range)) (blkOk_by (N := N22) (sc := defScope s22) (by decide +kernel)) (fun _ _ _ _ _ => (gx_name (Cn.blk c _ _ _ _ _) 3)) (fun _ _ _ _ _ => (tsx_one (tx_dnotin (Cn.blk c _ _ _ _ _) (ex_var 3) (ex_var 1)))) (fun _ _ _ _ _ => (ex_var 3))))
      (sx_cons (sx_expr (ex_methLam (p := "frame") (fr := ["gone"]) c (fun _ => rfl) (tL24 G LL) (Nat.le_succ _) tb rfl _ (fun f h _ => G.m__change_frames f h) [5] (ex_var 0) (NdefX.nscope_by (by decide +kernel)) (fun b a cd cv ac aq up cl A outer s H E c => have G : Gs (T.reb b a cd cv ac aq) := G.reb up; have L : Lv (T.reb b a cd cv ac aq) (6 * n) call := LL b a cd cv ac aq up; have c0 : Cn (T.reb b a cd cv ac aq) (6 * n) _ := c.mono (Nat.le_add_right _ 2); (ex_call c0 L.d5 (ax_cons (ex_var 0) (ax_cons (ex_var 1) ax_nil))))))
      (sx_cons (sx_fld c G.fo 7 (ex_var 0) (ex_call c0 L.d4 (ax_cons (ex_fld c G.fo 7 (ex_var 0) G.a_now) (ax_cons (ex_var 5) ax_nil))) G.a_now)
      (sx_one (sx_fld c G.fo 8 (ex_var 0) (ex_call c0 L.d4 (ax_cons (ex_fld c G.fo 8 (ex_var 0) G.a_last) (ax_cons (ex_var 5) ax_nil))) G.a_last))))))
-- Browser._throw_away
abbrev N23 : List Str := ["self", "staying", "number", "address", "kept", "frames"]
theorem sc23 : FnScope N23 ["self", "staying"] (defScope s23) := ⟨rfl, rfl, rfl, by decide +kernel, rfl, by decide +kernel, by decide +kernel⟩
def b23 (call : Nat → MF) : MS := (sSeq (sFor (gSet 2) (iSeq (mCall (bList) (aCons (mFld naM 5 (mVar 0)) aNil))) (sSeq (sAsg (gTupM 3 (gsCons (gSet 3) (gsCons (gSet 4) (gsCons (gSet 5) gsNil)))) (mBin dGet (mFld naM 5 (mVar 0)) (mVar 2))) (sIf (tAndM (tV (mBin (dIn true) (mVar 2) (mVar 1))) (tTru (mVar 4))) (sDput (mTup (aCons (mVar 3) (aCons (mC (.bl false)) (aCons (mIf (tV (mBin (dIn false) (mC (.str [110, 101, 115, 116, 115])) (mFld naM 3 (mVar 0)))) (mVar 5) (mTup aNil)) aNil)))) (mFld naM 5 (mVar 0)) (mVar 2)) sNil))) (sIf (tV (mBin (dIn true) (mC (.str [115, 116, 97, 116, 101, 115])) (mFld naM 3 (mVar 0)))) (sExpr (mMethL 0 (fun _ => false) (fun g => mDefL 6 (b24 g call)) (mCallN 2 (call 6) (aCons (mVar 0) (aCons (mVar 1) aNil))) [1] (mVar 0))) sNil))
theorem t23 {T : Tb} {n : Nat} {call : Nat → MF} (G : Gs T) (L : Lv T (6 * n) call) (LL : LLv T (6 * n) call) : MethAt T (6 * n + 6) 0 ("_throw_away" : Str) 2 (mDef 2 4 (b23 call)) :=
  G.f23.atC G.tb23 2 4 sc23 rfl rfl fun cc P tb f A outer s H E c => have c0 : Cn T (6 * n) _ := c.mono (Nat.le_add_right _ 5); have hj : 6 * n + 1 ≤ 6 * n + 5 := Nat.add_le_add_left (by decide) _; (sx_cons (sx_for c (ix_seqM c (ex_callTy (call_list3 c) (ax_cons (ex_fld c G.fo 5 (ex_var 0) G.a_documents) ax_nil) (hm := G.n_list))) (gx_name c 2)
      (sx_cons (sx_asg (ex_dget c (ex_fld c G.fo 5 (ex_var 0) G.a_documents) (ex_var 2)) (gx_tup c (gsx_cons (gx_name c 3) (gsx_cons (gx_name c 4) (gsx_cons (gx_name c 5) gsx_nil)))))
      (sx_one (sx_if (PW.pt (tx_and (tx_cmp (op_notinM c) (fun _ _ _ _ z => z) (ex_var 2) (ex_var 1) rfl) (tx_and1 (tx_tru c (ex_var 4))))) (sx_one (sx_dput c (ex_fld c G.fo 5 (ex_var 0) G.a_documents) (ex_var 2) (ex_tup (ax_cons (ex_var 3) (ax_cons ex_bl (ax_cons (ex_if (tx_cmp (op_inM c) (fun _ _ _ _ z => z) (ex_str [110, 101, 115, 116, 115]) (ex_fld c G.fo 3 (ex_var 0) G.a__cares) rfl) (ex_var 5) (ex_tup ax_nil)) ax_nil)))))) sx_nil))))
      (sx_one (sx_if (tx_cmp (op_notinM c) (fun _ _ _ _ z => z) (ex_str [115, 116, 97, 116, 101, 115]) (ex_fld c G.fo 3 (ex_var 0) G.a__cares) rfl) (sx_one (sx_expr (ex_methLam (p := "frame") (fr := ["staying"]) c (fun _ => rfl) (tL24 G LL) (Nat.le_succ _) tb rfl _ (fun f h _ => G.m__change_frames f h) [1] (ex_var 0) (NdefX.nscope_by (by decide +kernel)) (fun b a cd cv ac aq up cl A outer s H E c => have G : Gs (T.reb b a cd cv ac aq) := G.reb up; have L : Lv (T.reb b a cd cv ac aq) (6 * n) call := LL b a cd cv ac aq up; have c0 : Cn (T.reb b a cd cv ac aq) (6 * n) _ := c.mono (Nat.le_add_right _ 2); (ex_call c0 L.d6 (ax_cons (ex_var 0) (ax_cons (ex_var 1) ax_nil))))))) sx_nil)))
-- Browser._all_frames
abbrev N25 : List Str := ["self", "row", "_", "frame"]
theorem sc25 : FnScope N25 ["self"] (defScope s25) := ⟨rfl, rfl, rfl, by decide +kernel, rfl, by decide +kernel, by decide +kernel⟩
def b25 (call : Nat → MF) : MS := (sRet (mBin dAdd (mLst (aCons (mFld naM 4 (mVar 0)) aNil)) (mLc2 (iSeq (mListVals (mFld naM 5 (mVar 0)))) (gSet 1) tYesM (iSeq (mBin dIx (mVar 1) (mC (.int 2)))) (gTupM 2 (gsCons (gSet 2) (gsCons (gSet 3) gsNil))) tYesM (mVar 3) [1, 2, 3] [2, 3])))
theorem t25 {T : Tb} {n : Nat} {call : Nat → MF} (G : Gs T) (L : Lv T (6 * n) call) : MethAt T (6 * n + 6) 0 ("_all_frames" : Str) 1 (mDef 1 3 (b25 call)) :=
  G.f25.at 1 3 sc25 rfl rfl fun f cdv A outer s H E c => have c0 : Cn T (6 * n) _ := c.mono (Nat.le_add_right _ 5); have hj : 6 * n + 1 ≤ 6 * n + 5 := Nat.add_le_add_left (by decide) _; (sx_one (sx_ret (ex_op (op_addM c) (fun _ _ _ _ z => z) (ex_lst (ax_cons (ex_fld c G.fo 4 (ex_var 0) G.a_frame) ax_nil)) (ex_lc2 c [("row", 1), ("_", 2), ("frame", 3)] (ix_seqM c (ex_listVals c (ex_fld c G.fo 5 (ex_var 0) G.a_documents) G.n_list)) (blkOk_by (N := N25) (sc := defScope s25) (by decide +kernel)) (fun _ _ _ _ _ => (gx_name (Cn.blk c _ _ _ _ _) 1)) (fun _ _ _ _ _ => tsx_nil) (fun _ _ _ _ _ => (ix_seqM (Cn.blk c _ _ _ _ _) (ex_ix (Cn.blk c _ _ _ _ _) (ex_var 1) ex_int))) (fun _ _ _ _ _ => (gx_tup (Cn.blk c _ _ _ _ _) (gsx_cons (gx_name (Cn.blk c _ _ _ _ _) 2) (gsx_cons (gx_name (Cn.blk c _ _ _ _ _) 3) gsx_nil)))) (fun _ _ _ _ _ => tsx_nil) (fun _ _ _ _ _ => (ex_var 3))))))
-- Browser._forget
abbrev N26 : List Str := ["self", "used", "number"]
theorem sc26 : FnScope N26 ["self"] (defScope s26) := ⟨rfl, rfl, rfl, by decide +kernel, rfl, by decide +kernel, by decide +kernel⟩
def b26 (call : Nat → MF) : MS := (sSeq (sSet 1 (mDNew false)) (sSeq (sExpr (mMethN 0 (fun _ => false) 3 (call 27) (mVar 0) (aCons (mFld naM 4 (mVar 0)) (aCons (mVar 1) aNil)))) (sFldM naM 5 (mVar 0) (mLock (mVar 1) (mTop (.dK false []) (iKeysM (mVar 1)) (gSet 2) tYesM (uPut (mVar 2) (mBin dGet (mFld naM 5 (mVar 0)) (mVar 2))) [2])))))
theorem t26 {T : Tb} {n : Nat} {call : Nat → MF} (G : Gs T) (L : Lv T (6 * n) call) : MethAt T (6 * n + 6) 0 ("_forget" : Str) 1 (mDef 1 2 (b26 call)) :=
  G.f26.at 1 2 sc26 rfl rfl fun f cdv A outer s H E c => have c0 : Cn T (6 * n) _ := c.mono (Nat.le_add_right _ 5); have hj : 6 * n + 1 ≤ 6 * n + 5 := Nat.add_le_add_left (by decide) _; (sx_cons (sx_set c 1 ex_dnewK)
      (sx_cons (sx_expr (ex_meth c0 L.d27 _ (fun f h _ => G.m__mark_used f h) (ex_var 0) (ax_cons (ex_fld c G.fo 4 (ex_var 0) G.a_frame) (ax_cons (ex_var 1) ax_nil))))
      (sx_one (sx_fld c G.fo 5 (ex_var 0) (ex_lock (ex_dc1 c [("number", 2)] (ix_keysM (ex_var 1)) (blkOk_by (N := N26) (sc := defScope s26) (by decide +kernel)) (fun _ _ _ _ _ => (gx_name (Cn.blk c _ _ _ _ _) 2)) (fun _ _ _ _ _ => tsx_nil) (fun _ _ _ _ _ => (ex_var 2)) (fun _ _ _ _ _ => (ex_dget (Cn.blk c _ _ _ _ _) (ex_fld (Cn.blk c _ _ _ _ _) G.fo 5 (ex_var 0) G.a_documents) (ex_var 2))))) G.a_documents))))
-- Browser._mark_used
abbrev N27 : List Str := ["self", "frame", "used", "_", "number", "inner"]
theorem sc27 : FnScope N27 ["self", "frame", "used"] (defScope s27) := ⟨rfl, rfl, rfl, by decide +kernel, rfl, by decide +kernel, by decide +kernel⟩
def b27 (call : Nat → MF) : MS := (sFor (gTupM 3 (gsCons (gSet 3) (gsCons (gSet 3) (gsCons (gSet 4) gsNil)))) (iSeq (mVar 1)) (sIf (tV (mBin (dHas true) (mVar 4) (mVar 2))) (sSeq (sDput (mC (.bl true)) (mVar 2) (mVar 4)) (sFor (gTupM 2 (gsCons (gSet 3) (gsCons (gSet 5) gsNil))) (iSeq (mBin dIx (mBin dGet (mFld naM 5 (mVar 0)) (mVar 4)) (mC (.int 2)))) (sExpr (mMethN 0 (fun _ => false) 3 (call 27) (mVar 0) (aCons (mVar 5) (aCons (mVar 2) aNil)))))) sNil))
theorem t27 {T : Tb} {n : Nat} {call : Nat → MF} (G : Gs T) (L : Lv T (6 * n) call) : MethAt T (6 * n + 6) 0 ("_mark_used" : Str) 3 (mDef 3 3 (b27 call)) :=
  G.f27.at 3 3 sc27 rfl rfl fun f cdv A outer s H E c => have c0 : Cn T (6 * n) _ := c.mono (Nat.le_add_right _ 5); have hj : 6 * n + 1 ≤ 6 * n + 5 := Nat.add_le_add_left (by decide) _; (sx_one (sx_for c (ix_seqM c (ex_var 1)) (gx_tup c (gsx_cons (gx_name c 3) (gsx_cons (gx_name c 3) (gsx_cons (gx_name c 4) gsx_nil))))
      (sx_one (sx_if (tx_dnotin c (ex_var 4) (ex_var 2)) (sx_cons (sx_dput c (ex_var 2) (ex_var 4) ex_bl)
      (sx_one (sx_for c (ix_seqM c (ex_ix c (ex_dget c (ex_fld c G.fo 5 (ex_var 0) G.a_documents) (ex_var 4)) ex_int)) (gx_tup c (gsx_cons (gx_name c 3) (gsx_cons (gx_name c 5) gsx_nil)))
      (sx_one (sx_expr (ex_meth c0 L.d27 _ (fun f h _ => G.m__mark_used f h) (ex_var 0) (ax_cons (ex_var 5) (ax_cons (ex_var 2) ax_nil)))))))) sx_nil))))
-- Browser._shown_numbers
abbrev N28 : List Str := ["self", "frame", "number", "numbers", "_", "inner"]
theorem sc28 : FnScope N28 ["self", "frame"] (defScope s28) := ⟨rfl, rfl, rfl, by decide +kernel, rfl, by decide +kernel, by decide +kernel⟩
def b28 (call : Nat → MF) : MS := (sSeq (sSet 2 (mBin dIx (mCallN 2 (call 1) (aCons (mVar 1) (aCons (mFld naM 7 (mVar 0)) aNil))) (mC (.int 2)))) (sSeq (sSet 3 (mLst (aCons (mVar 2) aNil))) (sSeq (sFor (gTupM 2 (gsCons (gSet 4) (gsCons (gSet 5) gsNil))) (iSeq (mBin dIx (mBin dGet (mFld naM 5 (mVar 0)) (mVar 2)) (mC (.int 2)))) (sExpr (mBM fExtend (mVar 3) (aCons (mMethN 0 (fun _ => false) 2 (call 28) (mVar 0) (aCons (mVar 5) aNil)) aNil)))) (sRet (mVar 3)))))
theorem t28 {T : Tb} {n : Nat} {call : Nat → MF} (G : Gs T) (L : Lv T (6 * n) call) : MethAt T (6 * n + 6) 0 ("_shown_numbers" : Str) 2 (mDef 2 4 (b28 call)) :=
  G.f28.at 2 4 sc28 rfl rfl fun f cdv A outer s H E c => have c0 : Cn T (6 * n) _ := c.mono (Nat.le_add_right _ 5); have hj : 6 * n + 1 ≤ 6 * n + 5 := Nat.add_le_add_left (by decide) _; (sx_cons (sx_set c 2 (ex_ix c (ex_call c0 L.d1 (ax_cons (ex_var 1) (ax_cons (ex_fld c G.fo 7 (ex_var 0) G.a_now) ax_nil))) ex_int))
      (sx_cons (sx_set c 3 (ex_lst (ax_cons (ex_var 2) ax_nil)))
      (sx_cons (sx_for c (ix_seqM c (ex_ix c (ex_dget c (ex_fld c G.fo 5 (ex_var 0) G.a_documents) (ex_var 2)) ex_int)) (gx_tup c (gsx_cons (gx_name c 4) (gsx_cons (gx_name c 5) gsx_nil)))
      (sx_one (sx_expr (ex_bm c PySem.F.slot_list_extend PySem.F.type_list_extend mt_extendM (ex_var 3) (ax_cons (ex_meth c0 L.d28 _ (fun f h _ => G.m__shown_numbers f h) (ex_var 0) (ax_cons (ex_var 5) ax_nil)) ax_nil)))))
      (sx_one (sx_ret (ex_var 3))))))
-- Browser._number_at
abbrev N29 : List Str := ["self", "path"]
theorem sc29 : FnScope N29 ["self", "path"] (defScope s29) := ⟨rfl, rfl, rfl, by decide +kernel, rfl, by decide +kernel, by decide +kernel⟩
def b29 (call : Nat → MF) : MS := (sRet (mBin dIx (mCallN 2 (call 1) (aCons (mMethN 0 (fun _ => false) 2 (call 30) (mVar 0) (aCons (mVar 1) aNil)) (aCons (mFld naM 7 (mVar 0)) aNil))) (mC (.int 2))))
theorem t29 {T : Tb} {n : Nat} {call : Nat → MF} (G : Gs T) (L : Lv T (6 * n) call) : MethAt T (6 * n + 6) 0 ("_number_at" : Str) 2 (mDef 2 0 (b29 call)) :=
  G.f29.at 2 0 sc29 rfl rfl fun f cdv A outer s H E c => have c0 : Cn T (6 * n) _ := c.mono (Nat.le_add_right _ 5); have hj : 6 * n + 1 ≤ 6 * n + 5 := Nat.add_le_add_left (by decide) _; (sx_one (sx_ret (ex_ix c (ex_call c0 L.d1 (ax_cons (ex_meth c0 L.d30 _ (fun f h _ => G.m__frame_at f h) (ex_var 0) (ax_cons (ex_var 1) ax_nil)) (ax_cons (ex_fld c G.fo 7 (ex_var 0) G.a_now) ax_nil))) ex_int)))
-- Browser._frame_at
abbrev N30 : List Str := ["self", "path", "frame", "name", "number", "word", "inner"]
theorem sc30 : FnScope N30 ["self", "path"] (defScope s30) := ⟨rfl, rfl, rfl, by decide +kernel, rfl, by decide +kernel, by decide +kernel⟩
def b30 (call : Nat → MF) : MS := (sSeq (sSet 2 (mFld naM 4 (mVar 0))) (sSeq (sFor (gSet 3) (iSeq (mVar 1)) (sSeq (sSet 4 (mBin dIx (mCallN 2 (call 1) (aCons (mVar 2) (aCons (mFld naM 7 (mVar 0)) aNil))) (mC (.int 2)))) (sSet 2 (mBin dIx (mLc (iSeq (mBin dIx (mBin dGet (mFld naM 5 (mVar 0)) (mVar 4)) (mC (.int 2)))) (gTupM 2 (gsCons (gSet 5) (gsCons (gSet 6) gsNil))) (tV (mBin (dEq false) (mVar 5) (mVar 3))) (mVar 6) [5, 6]) (mC (.int 0)))))) (sRet (mVar 2))))
theorem t30 {T : Tb} {n : Nat} {call : Nat → MF} (G : Gs T) (L : Lv T (6 * n) call) : MethAt T (6 * n + 6) 0 ("_frame_at" : Str) 2 (mDef 2 5 (b30 call)) :=
  G.f30.at 2 5 sc30 rfl rfl fun f cdv A outer s H E c => have c0 : Cn T (6 * n) _ := c.mono (Nat.le_add_right _ 5); have hj : 6 * n + 1 ≤ 6 * n + 5 := Nat.add_le_add_left (by decide) _; (sx_cons (sx_set c 2 (ex_fld c G.fo 4 (ex_var 0) G.a_frame))
      (sx_cons (sx_for c (ix_seqM c (ex_var 1)) (gx_name c 3)
      (sx_cons (sx_set c 4 (ex_ix c (ex_call c0 L.d1 (ax_cons (ex_var 2) (ax_cons (ex_fld c G.fo 7 (ex_var 0) G.a_now) ax_nil))) ex_int))
      (sx_one (sx_set c 2 (ex_ix c (ex_lc c [("word", 5), ("inner", 6)] (ix_seqM c (ex_ix c (ex_dget c (ex_fld c G.fo 5 (ex_var 0) G.a_documents) (ex_var 4)) ex_int)) (blkOk_by (N := N30) (sc := defScope s30) (by decide +kernel)) (fun _ _ _ _ _ => (gx_tup (Cn.blk c _ _ _ _ _) (gsx_cons (gx_name (Cn.blk c _ _ _ _ _) 5) (gsx_cons (gx_name (Cn.blk c _ _ _ _ _) 6) gsx_nil)))) (fun _ _ _ _ _ => (tsx_one (tx_cmp (op_eqM (Cn.blk c _ _ _ _ _)) (fun _ _ _ _ z => z) (ex_var 5) (ex_var 3) rfl))) (fun _ _ _ _ _ => (ex_var 6))) ex_int)))))
      (sx_one (sx_ret (ex_var 2)))))
-- Browser._put_frame
abbrev N31 : List Str := ["self", "path", "frame", "number", "address", "kept", "frames", "rows", "name", "old"]
theorem sc31 : FnScope N31 ["self", "path", "frame"] (defScope s31) := ⟨rfl, rfl, rfl, by decide +kernel, rfl, by decide +kernel, by decide +kernel⟩
def b31 (call : Nat → MF) : MS := (sSeq (sIf (tV (mBin (dEq false) (mVar 1) (mTup aNil))) (sSeq (sFldM naM 4 (mVar 0) (mVar 2)) sRetN) sNil) (sSeq (sSet 3 (mMethN 0 (fun _ => false) 2 (call 29) (mVar 0) (aCons (mSlice (mVar 1) none (some (mUn dNeg (mC (.int 1))))) aNil))) (sSeq (sAsg (gTupM 3 (gsCons (gSet 4) (gsCons (gSet 5) (gsCons (gSet 6) gsNil)))) (mBin dGet (mFld naM 5 (mVar 0)) (mVar 3))) (sSeq (sSet 7 (mLc (iSeq (mVar 6)) (gTupM 2 (gsCons (gSet 8) (gsCons (gSet 9) gsNil))) tYesM (mTup (aCons (mVar 8) (aCons (mIf (tV (mBin (dEq false) (mVar 8) (mBin dIx (mVar 1) (mUn dNeg (mC (.int 1)))))) (mVar 2) (mVar 9)) aNil))) [8, 9])) (sDput (mTup (aCons (mVar 4) (aCons (mVar 5) (aCons (mCall (bTup) (aCons (mVar 7) aNil)) aNil)))) (mFld naM 5 (mVar 0)) (mVar 3))))))
theorem t31 {T : Tb} {n : Nat} {call : Nat → MF} (G : Gs T) (L : Lv T (6 * n) call) : MethAt T (6 * n + 6) 0 ("_put_frame" : Str) 3 (mDef 3 7 (b31 call)) :=
  G.f31.at 3 7 sc31 rfl rfl fun f cdv A outer s H E c => have c0 : Cn T (6 * n) _ := c.mono (Nat.le_add_right _ 5); have hj : 6 * n + 1 ≤ 6 * n + 5 := Nat.add_le_add_left (by decide) _; (sx_cons (sx_if (tx_cmp (op_eqM c) (fun _ _ _ _ z => z) (ex_var 1) (ex_tup ax_nil) rfl) (sx_cons (sx_fld c G.fo 4 (ex_var 0) (ex_var 2) G.a_frame)
      (sx_one sx_retN)) sx_nil)
      (sx_cons (sx_set c 3 (ex_meth c0 L.d29 _ (fun f h _ => G.m__number_at f h) (ex_var 0) (ax_cons (ex_slice c (ex_var 1) ox_none (ox_some (ex_neg ex_int))) ax_nil)))
      (sx_cons (sx_asg (ex_dget c (ex_fld c G.fo 5 (ex_var 0) G.a_documents) (ex_var 3)) (gx_tup c (gsx_cons (gx_name c 4) (gsx_cons (gx_name c 5) (gsx_cons (gx_name c 6) gsx_nil)))))
      (sx_cons (by first | exact sx_setLc c [("name", 8), ("old", 9)] 7 (ix_seqM c (ex_var 6)) (blkOk_by (N := N31) (sc := defScope s31) (by decide +kernel)) (fun _ _ _ _ _ => (gx_tup (Cn.blk c _ _ _ _ _) (gsx_cons (gx_name (Cn.blk c _ _ _ _ _) 8) (gsx_cons (gx_name (Cn.blk c _ _ _ _ _) 9) gsx_nil)))) (fun _ _ _ _ _ => tsx_nil) (fun _ _ _ _ _ => (ex_tup (ax_cons (ex_var 8) (ax_cons (ex_if (tx_cmp (op_eqM (Cn.blk c _ _ _ _ _)) (fun _ _ _ _ z => z) (ex_var 8) (ex_ix (Cn.blk c _ _ _ _ _) (ex_var 1) (ex_neg ex_int)) rfl) (ex_var 2) (ex_var 9)) ax_nil)))) (sw_true rfl rfl rfl (by decide +kernel)) | exact sx_set c 7 (ex_lc c [("name", 8), ("old", 9)] (ix_seqM c (ex_var 6)) (blkOk_by (N := N31) (sc := defScope s31) (by decide +kernel)) (fun _ _ _ _ _ => (gx_tup (Cn.blk c _ _ _ _ _) (gsx_cons (gx_name (Cn.blk c _ _ _ _ _) 8) (gsx_cons (gx_name (Cn.blk c _ _ _ _ _) 9) gsx_nil)))) (fun _ _ _ _ _ => tsx_nil) (fun _ _ _ _ _ => (ex_tup (ax_cons (ex_var 8) (ax_cons (ex_if (tx_cmp (op_eqM (Cn.blk c _ _ _ _ _)) (fun _ _ _ _ z => z) (ex_var 8) (ex_ix (Cn.blk c _ _ _ _ _) (ex_var 1) (ex_neg ex_int)) rfl) (ex_var 2) (ex_var 9)) ax_nil))))))
      (sx_one (sx_dput c (ex_fld c G.fo 5 (ex_var 0) G.a_documents) (ex_var 3) (ex_tup (ax_cons (ex_var 4) (ax_cons (ex_var 5) (ax_cons (ex_callTy (call_tup2 c) (ax_cons (ex_var 7) ax_nil) (hm := G.n_tuple)) ax_nil))))))))))
-- Site.__init__
abbrev N32 : List Str := ["self", "frames", "links", "home", "cap", "pushes", "drops", "clears", "reopens", "address", "rows", "name", "_"]
theorem sc32 : FnScope N32 ["self", "frames", "links", "home", "cap", "pushes", "drops", "clears", "reopens"] (defScope s32) := ⟨rfl, rfl, rfl, by decide +kernel, rfl, by decide +kernel, by decide +kernel⟩
def b32 (call : Nat → MF) : MS := (sSeq (sExpr (mCallN 2 (call 47) (aCons (mCallN 1 (call 50) (aCons (mVar 1) aNil)) (aCons (mC (.str [70, 82, 65, 77, 69, 83])) aNil)))) (sSeq (sExpr (mCallN 2 (call 47) (aCons (mCallN 2 (call 54) (aCons (mVar 2) (aCons (mVar 1) aNil))) (aCons (mC (.str [76, 73, 78, 75, 83])) aNil)))) (sSeq (sExpr (mCallN 2 (call 47) (aCons (mCallN 2 (call 49) (aCons (mVar 3) (aCons (mVar 1) aNil))) (aCons (mC (.str [72, 79, 77, 69])) aNil)))) (sSeq (sExpr (mCallN 2 (call 47) (aCons (mCallN 1 (call 56) (aCons (mVar 4) aNil)) (aCons (mC (.str [67, 65, 80])) aNil)))) (sSeq (sExpr (mCallN 2 (call 47) (aCons (mCallN 2 (call 55) (aCons (mVar 5) (aCons (mVar 1) aNil))) (aCons (mC (.str [80, 85, 83, 72, 69, 83])) aNil)))) (sSeq (sExpr (mCallN 2 (call 47) (aCons (mCall (bIsi 5) (aCons (mVar 6) (aCons (mC (.cn 2)) aNil))) (aCons (mC (.str [68, 82, 79, 80, 83])) aNil)))) (sSeq (sExpr (mCallN 2 (call 47) (aCons (mCall (bIsi 5) (aCons (mVar 7) (aCons (mC (.cn 2)) aNil))) (aCons (mC (.str [67, 76, 69, 65, 82, 83])) aNil)))) (sSeq (sExpr (mCallN 2 (call 47) (aCons (mCall (bIsi 5) (aCons (mVar 8) (aCons (mC (.cn 2)) aNil))) (aCons (mC (.str [82, 69, 79, 80, 69, 78, 83])) aNil)))) (sSeq (sFldM naM 11 (mVar 0) (mTop (.dK false []) (iSeq (mCall (bSorted) (aCons (mVar 1) aNil))) (gSet 9) tYesM (uPut (mVar 9) (mCallN 1 (call 57) (aCons (mBin dGet (mVar 1) (mVar 9)) aNil))) [9])) (sSeq (sFldM naM 12 (mVar 0) (mTop (.dK false []) (iSeq (mCall (bSorted) (aCons (mVar 2) aNil))) (gSet 9) tYesM (uPut (mVar 9) (mCall (bTup) (aCons (mCall (bSorted) (aCons (mBin dGet (mVar 2) (mVar 9)) aNil)) aNil))) [9])) (sSeq (sFldM naM 13 (mVar 0) (mVar 3)) (sSeq (sFldM naM 14 (mVar 0) (mVar 4)) (sSeq (sFldM naM 15 (mVar 0) (mCall (bTup) (aCons (mCall (bSorted) (aCons (mVar 5) aNil)) aNil))) (sSeq (sFldM naM 16 (mVar 0) (mVar 6)) (sSeq (sFldM naM 17 (mVar 0) (mVar 7)) (sSeq (sFldM naM 18 (mVar 0) (mVar 8)) (sSeq (sFldM naM 19 (mVar 0) (mLock (mFld naM 11 (mVar 0)) (mTop (.dK false []) (iKeysM (mFld naM 11 (mVar 0))) (gSet 9) tYesM (uPut (mVar 9) (mCallN 2 (call 58) (aCons (mFld naM 11 (mVar 0)) (aCons (mVar 9) aNil)))) [9]))) (sFldM naM 20 (mVar 0) (mCall (bTup) (aCons (mCall bSortS (aCons (mTop (.sT []) (iSeq (mListVals (mFld naM 11 (mVar 0)))) (gSet 10) tYesM (mCl (iSeq (mVar 10)) (gTupM 2 (gsCons (gSet 11) (gsCons (gSet 12) gsNil))) tYesM (uSadd (mVar 11)) [11, 12]) [10, 11, 12]) aNil)) aNil))))))))))))))))))))
theorem t32 {T : Tb} {n : Nat} {call : Nat → MF} (G : Gs T) (L : Lv T (6 * n) call) {fd : FuncData} {kws : List (Str × V)} (F : FunQ T.K dq32 fd kws) : FnOk T.P T.w T.K T.mg T.base CX0 (6 * n + 6) (dq32.ad.at T.K) fd ["self", "frames", "links", "home", "cap", "pushes", "drops", "clears", "reopens"] (spM T 9 (mDef 9 4 (b32 call))) :=
  def_okQ 9 4 F sc32 rfl rfl fun f cdv A outer s H E c => have c0 : Cn T (6 * n) _ := c.mono (Nat.le_add_right _ 5); have hj : 6 * n + 1 ≤ 6 * n + 5 := Nat.add_le_add_left (by decide) _; (sx_cons (sx_expr (ex_call c0 L.d47 (ax_cons (ex_call c0 L.d50 (ax_cons (ex_var 1) ax_nil)) (ax_cons (ex_str [70, 82, 65, 77, 69, 83]) ax_nil))))
      (sx_cons (sx_expr (ex_call c0 L.d47 (ax_cons (ex_call c0 L.d54 (ax_cons (ex_var 2) (ax_cons (ex_var 1) ax_nil))) (ax_cons (ex_str [76, 73, 78, 75, 83]) ax_nil))))
      (sx_cons (sx_expr (ex_call c0 L.d47 (ax_cons (ex_call c0 L.d49 (ax_cons (ex_var 3) (ax_cons (ex_var 1) ax_nil))) (ax_cons (ex_str [72, 79, 77, 69]) ax_nil))))
      (sx_cons (sx_expr (ex_call c0 L.d47 (ax_cons (ex_call c0 L.d56 (ax_cons (ex_var 4) ax_nil)) (ax_cons (ex_str [67, 65, 80]) ax_nil))))
      (sx_cons (sx_expr (ex_call c0 L.d47 (ax_cons (ex_call c0 L.d55 (ax_cons (ex_var 5) (ax_cons (ex_var 1) ax_nil))) (ax_cons (ex_str [80, 85, 83, 72, 69, 83]) ax_nil))))
      (sx_cons (sx_expr (ex_call c0 L.d47 (ax_cons (ex_callB (call_isiM c G.kt G.nc1 G.nc0) (ax_cons (ex_var 6) (ax_cons (ex_ty 2 (hm := G.n_bool)) ax_nil)) (hm := G.n_isinstance)) (ax_cons (ex_str [68, 82, 79, 80, 83]) ax_nil))))
      (sx_cons (sx_expr (ex_call c0 L.d47 (ax_cons (ex_callB (call_isiM c G.kt G.nc1 G.nc0) (ax_cons (ex_var 7) (ax_cons (ex_ty 2 (hm := G.n_bool)) ax_nil)) (hm := G.n_isinstance)) (ax_cons (ex_str [67, 76, 69, 65, 82, 83]) ax_nil))))
      (sx_cons (sx_expr (ex_call c0 L.d47 (ax_cons (ex_callB (call_isiM c G.kt G.nc1 G.nc0) (ax_cons (ex_var 8) (ax_cons (ex_ty 2 (hm := G.n_bool)) ax_nil)) (hm := G.n_isinstance)) (ax_cons (ex_str [82, 69, 79, 80, 69, 78, 83]) ax_nil))))
      (sx_cons (sx_fld c G.fo 11 (ex_var 0) (ex_dc1 c [("address", 9)] (ix_seqM c (ex_callB (call_sortedM c) (ax_cons (ex_var 1) ax_nil) (hm := G.n_sorted))) (blkOk_by (N := N32) (sc := defScope s32) (by decide +kernel)) (fun _ _ _ _ _ => (gx_name (Cn.blk c _ _ _ _ _) 9)) (fun _ _ _ _ _ => tsx_nil) (fun _ _ _ _ _ => (ex_var 9)) (fun _ _ _ _ _ => (ex_call (Cn.blk c0 _ _ _ _ _) L.d57 (ax_cons (ex_dget (Cn.blk c _ _ _ _ _) (ex_var 1) (ex_var 9)) ax_nil)))) G.a__frames)
      (sx_cons (sx_fld c G.fo 12 (ex_var 0) (ex_dc1 c [("address", 9)] (ix_seqM c (ex_callB (call_sortedM c) (ax_cons (ex_var 2) ax_nil) (hm := G.n_sorted))) (blkOk_by (N := N32) (sc := defScope s32) (by decide +kernel)) (fun _ _ _ _ _ => (gx_name (Cn.blk c _ _ _ _ _) 9)) (fun _ _ _ _ _ => tsx_nil) (fun _ _ _ _ _ => (ex_var 9)) (fun _ _ _ _ _ => (ex_callTy (call_tup2 (Cn.blk c _ _ _ _ _)) (ax_cons (ex_callB (call_sortedM (Cn.blk c _ _ _ _ _)) (ax_cons (ex_dget (Cn.blk c _ _ _ _ _) (ex_var 2) (ex_var 9)) ax_nil) (hm := G.n_sorted)) ax_nil) (hm := G.n_tuple)))) G.a__links)
      (sx_cons (sx_fld c G.fo 13 (ex_var 0) (ex_var 3) G.a__home)
      (sx_cons (sx_fld c G.fo 14 (ex_var 0) (ex_var 4) G.a__cap)
      (sx_cons (sx_fld c G.fo 15 (ex_var 0) (ex_callTy (call_tup2 c) (ax_cons (ex_callB (call_sortedM c) (ax_cons (ex_var 5) ax_nil) (hm := G.n_sorted)) ax_nil) (hm := G.n_tuple)) G.a__pushes)
      (sx_cons (sx_fld c G.fo 16 (ex_var 0) (ex_var 6) G.a__drops)
      (sx_cons (sx_fld c G.fo 17 (ex_var 0) (ex_var 7) G.a__clears)
      (sx_cons (sx_fld c G.fo 18 (ex_var 0) (ex_var 8) G.a__reopens)
      (sx_cons (sx_fld c G.fo 19 (ex_var 0) (ex_lock (ex_dc1 c [("address", 9)] (ix_keysM (ex_fld c G.fo 11 (ex_var 0) G.a__frames)) (blkOk_by (N := N32) (sc := defScope s32) (by decide +kernel)) (fun _ _ _ _ _ => (gx_name (Cn.blk c _ _ _ _ _) 9)) (fun _ _ _ _ _ => tsx_nil) (fun _ _ _ _ _ => (ex_var 9)) (fun _ _ _ _ _ => (ex_call (Cn.blk c0 _ _ _ _ _) L.d58 (ax_cons (ex_fld (Cn.blk c _ _ _ _ _) G.fo 11 (ex_var 0) G.a__frames) (ax_cons (ex_var 9) ax_nil)))))) G.a__depths)
      (sx_one (sx_fld c G.fo 20 (ex_var 0) (ex_callTy (call_tup2 c) (ax_cons (ex_callB (call_sortS c) (ax_cons (ex_scM c [("rows", 10), ("name", 11), ("_", 12)] (ix_seqM c (ex_listVals c (ex_fld c G.fo 11 (ex_var 0) G.a__frames) G.n_list)) (blkOk_by (N := N32) (sc := defScope s32) (by decide +kernel)) (fun _ _ _ _ _ => (gx_name (Cn.blk c _ _ _ _ _) 10)) (fun _ _ _ _ _ => tsx_nil) (fun _ _ _ _ _ _ => (un_lastS (Cn.blk c _ _ _ _ _) (ix_seqM (Cn.blk c _ _ _ _ _) (ex_var 10)) (gx_tup (Cn.blk c _ _ _ _ _) (gsx_cons (gx_name (Cn.blk c _ _ _ _ _) 11) (gsx_cons (gx_name (Cn.blk c _ _ _ _ _) 12) gsx_nil))) tsx_nil (ex_var 11)))) ax_nil) (hm := G.n_sorted)) ax_nil) (hm := G.n_tuple)) G.a__names)))))))))))))))))))
-- Site.frames
abbrev N33 : List Str := ["self"]
theorem sc33 : FnScope N33 ["self"] (defScope s33) := ⟨rfl, rfl, rfl, by decide +kernel, rfl, by decide +kernel, by decide +kernel⟩
def b33 (call : Nat → MF) : MS := (sRet (mCall (bDict) (aCons (mFld naM 11 (mVar 0)) aNil)))
theorem t33 {T : Tb} {n : Nat} {call : Nat → MF} (G : Gs T) (L : Lv T (6 * n) call) : PropAt T (6 * n + 6) 1 ("frames" : Str) (mDef 1 0 (b33 call)) :=
  G.f33.at 0 sc33 rfl rfl fun f cdv A outer s H E c => have c0 : Cn T (6 * n) _ := c.mono (Nat.le_add_right _ 5); have hj : 6 * n + 1 ≤ 6 * n + 5 := Nat.add_le_add_left (by decide) _; (sx_one (sx_ret (ex_callTy (call_dictM c) (ax_cons (ex_fld c G.fo 11 (ex_var 0) G.a__frames) ax_nil) (hm := G.n_dict))))
-- Site.links
abbrev N34 : List Str := ["self"]
theorem sc34 : FnScope N34 ["self"] (defScope s34) := ⟨rfl, rfl, rfl, by decide +kernel, rfl, by decide +kernel, by decide +kernel⟩
def b34 (call : Nat → MF) : MS := (sRet (mCall (bDict) (aCons (mFld naM 12 (mVar 0)) aNil)))
theorem t34 {T : Tb} {n : Nat} {call : Nat → MF} (G : Gs T) (L : Lv T (6 * n) call) : PropAt T (6 * n + 6) 1 ("links" : Str) (mDef 1 0 (b34 call)) :=
  G.f34.at 0 sc34 rfl rfl fun f cdv A outer s H E c => have c0 : Cn T (6 * n) _ := c.mono (Nat.le_add_right _ 5); have hj : 6 * n + 1 ≤ 6 * n + 5 := Nat.add_le_add_left (by decide) _; (sx_one (sx_ret (ex_callTy (call_dictM c) (ax_cons (ex_fld c G.fo 12 (ex_var 0) G.a__links) ax_nil) (hm := G.n_dict))))
-- Site.home
abbrev N35 : List Str := ["self"]
theorem sc35 : FnScope N35 ["self"] (defScope s35) := ⟨rfl, rfl, rfl, by decide +kernel, rfl, by decide +kernel, by decide +kernel⟩
def b35 (call : Nat → MF) : MS := (sRet (mFld naM 13 (mVar 0)))
theorem t35 {T : Tb} {n : Nat} {call : Nat → MF} (G : Gs T) (L : Lv T (6 * n) call) : PropAt T (6 * n + 6) 1 ("home" : Str) (mDef 1 0 (b35 call)) :=
  G.f35.at 0 sc35 rfl rfl fun f cdv A outer s H E c => have c0 : Cn T (6 * n) _ := c.mono (Nat.le_add_right _ 5); have hj : 6 * n + 1 ≤ 6 * n + 5 := Nat.add_le_add_left (by decide) _; (sx_one (sx_ret (ex_fld c G.fo 13 (ex_var 0) G.a__home)))
-- Site.cap
abbrev N36 : List Str := ["self"]
theorem sc36 : FnScope N36 ["self"] (defScope s36) := ⟨rfl, rfl, rfl, by decide +kernel, rfl, by decide +kernel, by decide +kernel⟩
def b36 (call : Nat → MF) : MS := (sRet (mFld naM 14 (mVar 0)))
theorem t36 {T : Tb} {n : Nat} {call : Nat → MF} (G : Gs T) (L : Lv T (6 * n) call) : PropAt T (6 * n + 6) 1 ("cap" : Str) (mDef 1 0 (b36 call)) :=
  G.f36.at 0 sc36 rfl rfl fun f cdv A outer s H E c => have c0 : Cn T (6 * n) _ := c.mono (Nat.le_add_right _ 5); have hj : 6 * n + 1 ≤ 6 * n + 5 := Nat.add_le_add_left (by decide) _; (sx_one (sx_ret (ex_fld c G.fo 14 (ex_var 0) G.a__cap)))
-- Site.pushes
abbrev N37 : List Str := ["self"]
theorem sc37 : FnScope N37 ["self"] (defScope s37) := ⟨rfl, rfl, rfl, by decide +kernel, rfl, by decide +kernel, by decide +kernel⟩
def b37 (call : Nat → MF) : MS := (sRet (mFld naM 15 (mVar 0)))
theorem t37 {T : Tb} {n : Nat} {call : Nat → MF} (G : Gs T) (L : Lv T (6 * n) call) : PropAt T (6 * n + 6) 1 ("pushes" : Str) (mDef 1 0 (b37 call)) :=
  G.f37.at 0 sc37 rfl rfl fun f cdv A outer s H E c => have c0 : Cn T (6 * n) _ := c.mono (Nat.le_add_right _ 5); have hj : 6 * n + 1 ≤ 6 * n + 5 := Nat.add_le_add_left (by decide) _; (sx_one (sx_ret (ex_fld c G.fo 15 (ex_var 0) G.a__pushes)))
-- Site.drops
abbrev N38 : List Str := ["self"]
theorem sc38 : FnScope N38 ["self"] (defScope s38) := ⟨rfl, rfl, rfl, by decide +kernel, rfl, by decide +kernel, by decide +kernel⟩
def b38 (call : Nat → MF) : MS := (sRet (mFld naM 16 (mVar 0)))
theorem t38 {T : Tb} {n : Nat} {call : Nat → MF} (G : Gs T) (L : Lv T (6 * n) call) : PropAt T (6 * n + 6) 1 ("drops" : Str) (mDef 1 0 (b38 call)) :=
  G.f38.at 0 sc38 rfl rfl fun f cdv A outer s H E c => have c0 : Cn T (6 * n) _ := c.mono (Nat.le_add_right _ 5); have hj : 6 * n + 1 ≤ 6 * n + 5 := Nat.add_le_add_left (by decide) _; (sx_one (sx_ret (ex_fld c G.fo 16 (ex_var 0) G.a__drops)))
-- Site.clears
abbrev N39 : List Str := ["self"]
theorem sc39 : FnScope N39 ["self"] (defScope s39) := ⟨rfl, rfl, rfl, by decide +kernel, rfl, by decide +kernel, by decide +kernel⟩
def b39 (call : Nat → MF) : MS := (sRet (mFld naM 17 (mVar 0)))
theorem t39 {T : Tb} {n : Nat} {call : Nat → MF} (G : Gs T) (L : Lv T (6 * n) call) : PropAt T (6 * n + 6) 1 ("clears" : Str) (mDef 1 0 (b39 call)) :=
  G.f39.at 0 sc39 rfl rfl fun f cdv A outer s H E c => have c0 : Cn T (6 * n) _ := c.mono (Nat.le_add_right _ 5); have hj : 6 * n + 1 ≤ 6 * n + 5 := Nat.add_le_add_left (by decide) _; (sx_one (sx_ret (ex_fld c G.fo 17 (ex_var 0) G.a__clears)))
-- Site.reopens
abbrev N40 : List Str := ["self"]
theorem sc40 : FnScope N40 ["self"] (defScope s40) := ⟨rfl, rfl, rfl, by decide +kernel, rfl, by decide +kernel, by decide +kernel⟩
def b40 (call : Nat → MF) : MS := (sRet (mFld naM 18 (mVar 0)))
theorem t40 {T : Tb} {n : Nat} {call : Nat → MF} (G : Gs T) (L : Lv T (6 * n) call) : PropAt T (6 * n + 6) 1 ("reopens" : Str) (mDef 1 0 (b40 call)) :=
  G.f40.at 0 sc40 rfl rfl fun f cdv A outer s H E c => have c0 : Cn T (6 * n) _ := c.mono (Nat.le_add_right _ 5); have hj : 6 * n + 1 ≤ 6 * n + 5 := Nat.add_le_add_left (by decide) _; (sx_one (sx_ret (ex_fld c G.fo 18 (ex_var 0) G.a__reopens)))
-- Site.__eq__
abbrev N41 : List Str := ["self", "other"]
theorem sc41 : FnScope N41 ["self", "other"] (defScope s41) := ⟨rfl, rfl, rfl, by decide +kernel, rfl, by decide +kernel, by decide +kernel⟩
def b41 (call : Nat → MF) : MS := (sRet (mAnd (mCall (bIsi 5) (aCons (mVar 1) (aCons (mC (.cn (Nat.add 16 1))) aNil))) (mAnd (mBin (dEq false) (mFld naM 11 (mVar 0)) (mFld naM 11 (mVar 1))) (mAnd (mBin (dEq false) (mFld naM 12 (mVar 0)) (mFld naM 12 (mVar 1))) (mAnd (mBin (dEq false) (mFld naM 13 (mVar 0)) (mFld naM 13 (mVar 1))) (mAnd (mBin (dEq false) (mFld naM 14 (mVar 0)) (mFld naM 14 (mVar 1))) (mAnd (mBin (dEq false) (mFld naM 15 (mVar 0)) (mFld naM 15 (mVar 1))) (mAnd (mBin (dEq false) (mFld naM 16 (mVar 0)) (mFld naM 16 (mVar 1))) (mAnd (mBin (dEq false) (mFld naM 17 (mVar 0)) (mFld naM 17 (mVar 1))) (mBin (dEq false) (mFld naM 18 (mVar 0)) (mFld naM 18 (mVar 1))))))))))))
theorem t41 {T : Tb} {n : Nat} {call : Nat → MF} (G : Gs T) (L : Lv T (6 * n) call) : MethAt T (6 * n + 6) 1 ("__eq__" : Str) 2 (mDef 2 0 (b41 call)) :=
  G.f41.at 2 0 sc41 rfl rfl fun f cdv A outer s H E c => have c0 : Cn T (6 * n) _ := c.mono (Nat.le_add_right _ 5); have hj : 6 * n + 1 ≤ 6 * n + 5 := Nat.add_le_add_left (by decide) _; (sx_one (sx_ret (ex_and (ex_callB (call_isiM c G.kt G.nc1 G.nc0) (ax_cons (ex_var 1) (ax_cons (ex_cls c 1 G.c_Site) ax_nil)) (hm := G.n_isinstance)) (ex_and (ex_cmp (op_eqM c) (fun _ _ _ _ z => z) (ex_fld c G.fo 11 (ex_var 0) G.a__frames) (ex_fld c G.fo 11 (ex_var 1) G.a__frames) rfl) (ex_and (ex_cmp (op_eqM c) (fun _ _ _ _ z => z) (ex_fld c G.fo 12 (ex_var 0) G.a__links) (ex_fld c G.fo 12 (ex_var 1) G.a__links) rfl) (ex_and (ex_cmp (op_eqM c) (fun _ _ _ _ z => z) (ex_fld c G.fo 13 (ex_var 0) G.a__home) (ex_fld c G.fo 13 (ex_var 1) G.a__home) rfl) (ex_and (ex_cmp (op_eqM c) (fun _ _ _ _ z => z) (ex_fld c G.fo 14 (ex_var 0) G.a__cap) (ex_fld c G.fo 14 (ex_var 1) G.a__cap) rfl) (ex_and (ex_cmp (op_eqM c) (fun _ _ _ _ z => z) (ex_fld c G.fo 15 (ex_var 0) G.a__pushes) (ex_fld c G.fo 15 (ex_var 1) G.a__pushes) rfl) (ex_and (ex_cmp (op_eqM c) (fun _ _ _ _ z => z) (ex_fld c G.fo 16 (ex_var 0) G.a__drops) (ex_fld c G.fo 16 (ex_var 1) G.a__drops) rfl) (ex_and (ex_cmp (op_eqM c) (fun _ _ _ _ z => z) (ex_fld c G.fo 17 (ex_var 0) G.a__clears) (ex_fld c G.fo 17 (ex_var 1) G.a__clears) rfl) (ex_one (ex_cmp (op_eqM c) (fun _ _ _ _ z => z) (ex_fld c G.fo 18 (ex_var 0) G.a__reopens) (ex_fld c G.fo 18 (ex_var 1) G.a__reopens) rfl))))))))))))
-- Site.addresses
abbrev N42 : List Str := ["self"]
theorem sc42 : FnScope N42 ["self"] (defScope s42) := ⟨rfl, rfl, rfl, by decide +kernel, rfl, by decide +kernel, by decide +kernel⟩
def b42 (call : Nat → MF) : MS := (sRet (mCall (bList) (aCons (mFld naM 11 (mVar 0)) aNil)))
theorem t42 {T : Tb} {n : Nat} {call : Nat → MF} (G : Gs T) (L : Lv T (6 * n) call) : MethAt T (6 * n + 6) 1 ("addresses" : Str) 1 (mDef 1 0 (b42 call)) :=
  G.f42.at 1 0 sc42 rfl rfl fun f cdv A outer s H E c => have c0 : Cn T (6 * n) _ := c.mono (Nat.le_add_right _ 5); have hj : 6 * n + 1 ≤ 6 * n + 5 := Nat.add_le_add_left (by decide) _; (sx_one (sx_ret (ex_callTy (call_list3 c) (ax_cons (ex_fld c G.fo 11 (ex_var 0) G.a__frames) ax_nil) (hm := G.n_list))))
-- Site.frame_names
abbrev N43 : List Str := ["self"]
theorem sc43 : FnScope N43 ["self"] (defScope s43) := ⟨rfl, rfl, rfl, by decide +kernel, rfl, by decide +kernel, by decide +kernel⟩
def b43 (call : Nat → MF) : MS := (sRet (mFld naM 20 (mVar 0)))
theorem t43 {T : Tb} {n : Nat} {call : Nat → MF} (G : Gs T) (L : Lv T (6 * n) call) : MethAt T (6 * n + 6) 1 ("frame_names" : Str) 1 (mDef 1 0 (b43 call)) :=
  G.f43.at 1 0 sc43 rfl rfl fun f cdv A outer s H E c => have c0 : Cn T (6 * n) _ := c.mono (Nat.le_add_right _ 5); have hj : 6 * n + 1 ≤ 6 * n + 5 := Nat.add_le_add_left (by decide) _; (sx_one (sx_ret (ex_fld c G.fo 20 (ex_var 0) G.a__names)))
-- Site.frames_of
abbrev N44 : List Str := ["self", "address"]
theorem sc44 : FnScope N44 ["self", "address"] (defScope s44) := ⟨rfl, rfl, rfl, by decide +kernel, rfl, by decide +kernel, by decide +kernel⟩
def b44 (call : Nat → MF) : MS := (sRet (mBin dGet (mFld naM 11 (mVar 0)) (mVar 1)))
theorem t44 {T : Tb} {n : Nat} {call : Nat → MF} (G : Gs T) (L : Lv T (6 * n) call) : MethAt T (6 * n + 6) 1 ("frames_of" : Str) 2 (mDef 2 0 (b44 call)) :=
  G.f44.at 2 0 sc44 rfl rfl fun f cdv A outer s H E c => have c0 : Cn T (6 * n) _ := c.mono (Nat.le_add_right _ 5); have hj : 6 * n + 1 ≤ 6 * n + 5 := Nat.add_le_add_left (by decide) _; (sx_one (sx_ret (ex_dget c (ex_fld c G.fo 11 (ex_var 0) G.a__frames) (ex_var 1))))
-- Site.links_of
abbrev N45 : List Str := ["self", "address"]
theorem sc45 : FnScope N45 ["self", "address"] (defScope s45) := ⟨rfl, rfl, rfl, by decide +kernel, rfl, by decide +kernel, by decide +kernel⟩
def b45 (call : Nat → MF) : MS := (sRet (mBin dGet (mFld naM 12 (mVar 0)) (mVar 1)))
theorem t45 {T : Tb} {n : Nat} {call : Nat → MF} (G : Gs T) (L : Lv T (6 * n) call) : MethAt T (6 * n + 6) 1 ("links_of" : Str) 2 (mDef 2 0 (b45 call)) :=
  G.f45.at 2 0 sc45 rfl rfl fun f cdv A outer s H E c => have c0 : Cn T (6 * n) _ := c.mono (Nat.le_add_right _ 5); have hj : 6 * n + 1 ≤ 6 * n + 5 := Nat.add_le_add_left (by decide) _; (sx_one (sx_ret (ex_dget c (ex_fld c G.fo 12 (ex_var 0) G.a__links) (ex_var 1))))
-- Site.depth_of
abbrev N46 : List Str := ["self", "address"]
theorem sc46 : FnScope N46 ["self", "address"] (defScope s46) := ⟨rfl, rfl, rfl, by decide +kernel, rfl, by decide +kernel, by decide +kernel⟩
def b46 (call : Nat → MF) : MS := (sRet (mBin dGet (mFld naM 19 (mVar 0)) (mVar 1)))
theorem t46 {T : Tb} {n : Nat} {call : Nat → MF} (G : Gs T) (L : Lv T (6 * n) call) : MethAt T (6 * n + 6) 1 ("depth_of" : Str) 2 (mDef 2 0 (b46 call)) :=
  G.f46.at 2 0 sc46 rfl rfl fun f cdv A outer s H E c => have c0 : Cn T (6 * n) _ := c.mono (Nat.le_add_right _ 5); have hj : 6 * n + 1 ≤ 6 * n + 5 := Nat.add_le_add_left (by decide) _; (sx_one (sx_ret (ex_dget c (ex_fld c G.fo 19 (ex_var 0) G.a__depths) (ex_var 1))))
-- _require
abbrev N47 : List Str := ["right", "part"]
theorem sc47 : FnScope N47 ["right", "part"] (defScope s47) := ⟨rfl, rfl, rfl, by decide +kernel, rfl, by decide +kernel, by decide +kernel⟩
def b47 (call : Nat → MF) : MS := (sIf (tNotM (tTru (mVar 0))) sNever sNil)
theorem t47 {T : Tb} {n : Nat} {call : Nat → MF} (G : Gs T) (L : Lv T (6 * n) call) : DefAt T (6 * n + 6) ("_require" : Str) 2 (mDef 2 0 (b47 call)) :=
  G.f47.at 2 0 sc47 rfl rfl fun f cdv A outer s H E c => have c0 : Cn T (6 * n) _ := c.mono (Nat.le_add_right _ 5); have hj : 6 * n + 1 ≤ 6 * n + 5 := Nat.add_le_add_left (by decide) _; (sx_one (sx_if (tx_not (tx_tru c (ex_var 0))) (sx_one sx_never) sx_nil))
-- _is_name
abbrev N48 : List Str := ["value", "letter"]
theorem sc48 : FnScope N48 ["value"] (defScope s48) := ⟨rfl, rfl, rfl, by decide +kernel, rfl, by decide +kernel, by decide +kernel⟩
def b48 (call : Nat → MF) : MS := (sRet (mAnd (mCall (bIsi 5) (aCons (mVar 0) (aCons (mC (.cn 1)) aNil))) (mAnd (mChain dLe dLe (mC (.int 1)) (mCall (bLen) (aCons (mVar 0) aNil)) (mC (.int 8))) (mCall (bBls allB) (aCons (mLc (iStrM (mVar 0)) (gSet 1) tYesM (mChain dLe dLe (mC (.str [97])) (mVar 1) (mC (.str [122]))) [1]) aNil)))))
theorem t48 {T : Tb} {n : Nat} {call : Nat → MF} (G : Gs T) (L : Lv T (6 * n) call) : DefAt T (6 * n + 6) ("_is_name" : Str) 1 (mDef 1 1 (b48 call)) :=
  G.f48.at 1 1 sc48 rfl rfl fun f cdv A outer s H E c => have c0 : Cn T (6 * n) _ := c.mono (Nat.le_add_right _ 5); have hj : 6 * n + 1 ≤ 6 * n + 5 := Nat.add_le_add_left (by decide) _; (sx_one (sx_ret (ex_and (ex_callB (call_isiM c G.kt G.nc1 G.nc0) (ax_cons (ex_var 0) (ax_cons (ex_ty 1 (hm := G.n_str)) ax_nil)) (hm := G.n_isinstance)) (ex_and (ex_chain op_leM op_leM ex_int (ex_callB (call_len4 c) (ax_cons (ex_var 0) ax_nil) (hm := G.n_len)) ex_int) (ex_one (ex_callB (call_allM c) (ax_cons (ex_lc c [("letter", 1)] (ix_strM (ex_var 0)) (blkOk_by (N := N48) (sc := defScope s48) (by decide +kernel)) (fun _ _ _ _ _ => (gx_name (Cn.blk c _ _ _ _ _) 1)) (fun _ _ _ _ _ => tsx_nil) (fun _ _ _ _ _ => (ex_chain op_leM op_leM (ex_str [97]) (ex_var 1) (ex_str [122])))) ax_nil) (hm := G.n_all)))))))
-- _is_key
abbrev N49 : List Str := ["value", "frames"]
theorem sc49 : FnScope N49 ["value", "frames"] (defScope s49) := ⟨rfl, rfl, rfl, by decide +kernel, rfl, by decide +kernel, by decide +kernel⟩
def b49 (call : Nat → MF) : MS := (sRet (mAnd (mCall (bIsi 5) (aCons (mVar 0) (aCons (mC (.cn 1)) aNil))) (mBin (dHas false) (mVar 0) (mVar 1))))
theorem t49 {T : Tb} {n : Nat} {call : Nat → MF} (G : Gs T) (L : Lv T (6 * n) call) : DefAt T (6 * n + 6) ("_is_key" : Str) 2 (mDef 2 0 (b49 call)) :=
  G.f49.at 2 0 sc49 rfl rfl fun f cdv A outer s H E c => have c0 : Cn T (6 * n) _ := c.mono (Nat.le_add_right _ 5); have hj : 6 * n + 1 ≤ 6 * n + 5 := Nat.add_le_add_left (by decide) _; (sx_one (sx_ret (ex_and (ex_callB (call_isiM c G.kt G.nc1 G.nc0) (ax_cons (ex_var 0) (ax_cons (ex_ty 1 (hm := G.n_str)) ax_nil)) (hm := G.n_isinstance)) (ex_one (ex_din c (ex_var 0) (ex_var 1))))))
-- _are_frames
abbrev N50 : List Str := ["value", "address"]
theorem sc50 : FnScope N50 ["value"] (defScope s50) := ⟨rfl, rfl, rfl, by decide +kernel, rfl, by decide +kernel, by decide +kernel⟩
def b50 (call : Nat → MF) : MS := (sSeq (sIf (tOrM (tNotM (tTru (mCall (bIsi 5) (aCons (mVar 0) (aCons (mC (.cn 5)) aNil))))) (tNotM (tV (mChain dLe dLe (mC (.int 1)) (mCall (bLen) (aCons (mVar 0) aNil)) (mC (.int 4)))))) (sRet (mC (.bl false))) sNil) (sSeq (sIf (tNotM (tTru (mCall (bBls allB) (aCons (mLock (mVar 0) (mLc (iKeysM (mVar 0)) (gSet 1) tYesM (mCallN 1 (call 48) (aCons (mVar 1) aNil)) [1])) aNil)))) (sRet (mC (.bl false))) sNil) (sRet (mAnd (mCall (bBls allB) (aCons (mLock (mVar 0) (mLc (iKeysM (mVar 0)) (gSet 1) tYesM (mCallN 2 (call 51) (aCons (mBin dGet (mVar 0) (mVar 1)) (aCons (mVar 0) aNil))) [1])) aNil)) (mCallN 1 (call 53) (aCons (mVar 0) aNil))))))
theorem t50 {T : Tb} {n : Nat} {call : Nat → MF} (G : Gs T) (L : Lv T (6 * n) call) : DefAt T (6 * n + 6) ("_are_frames" : Str) 1 (mDef 1 1 (b50 call)) :=
  G.f50.at 1 1 sc50 rfl rfl fun f cdv A outer s H E c => have c0 : Cn T (6 * n) _ := c.mono (Nat.le_add_right _ 5); have hj : 6 * n + 1 ≤ 6 * n + 5 := Nat.add_le_add_left (by decide) _; (sx_cons (sx_if (PW.pt (tx_or (tx_not (tx_tru c (ex_callB (call_isiM c G.kt G.nc1 G.nc0) (ax_cons (ex_var 0) (ax_cons (ex_ty 5 (hm := G.n_dict)) ax_nil)) (hm := G.n_isinstance)))) (tx_or1 (tx_not (tx_chain op_leM op_leM ex_int (ex_callB (call_len4 c) (ax_cons (ex_var 0) ax_nil) (hm := G.n_len)) ex_int))))) (sx_one (sx_ret ex_bl)) sx_nil)
      (sx_cons (sx_if (tx_not (tx_tru c (ex_callB (call_allM c) (ax_cons (ex_lock (ex_lc c [("address", 1)] (ix_keysM (ex_var 0)) (blkOk_by (N := N50) (sc := defScope s50) (by decide +kernel)) (fun _ _ _ _ _ => (gx_name (Cn.blk c _ _ _ _ _) 1)) (fun _ _ _ _ _ => tsx_nil) (fun _ _ _ _ _ => (ex_call (Cn.blk c0 _ _ _ _ _) L.d48 (ax_cons (ex_var 1) ax_nil))))) ax_nil) (hm := G.n_all)))) (sx_one (sx_ret ex_bl)) sx_nil)
      (sx_one (sx_ret (ex_and (ex_callB (call_allM c) (ax_cons (ex_lock (ex_lc c [("address", 1)] (ix_keysM (ex_var 0)) (blkOk_by (N := N50) (sc := defScope s50) (by decide +kernel)) (fun _ _ _ _ _ => (gx_name (Cn.blk c _ _ _ _ _) 1)) (fun _ _ _ _ _ => tsx_nil) (fun _ _ _ _ _ => (ex_call (Cn.blk c0 _ _ _ _ _) L.d51 (ax_cons (ex_dget (Cn.blk c _ _ _ _ _) (ex_var 0) (ex_var 1)) (ax_cons (ex_var 0) ax_nil)))))) ax_nil) (hm := G.n_all)) (ex_one (ex_call c0 L.d53 (ax_cons (ex_var 0) ax_nil))))))))
-- _are_pairs
abbrev N51 : List Str := ["rows", "frames", "row"]
theorem sc51 : FnScope N51 ["rows", "frames"] (defScope s51) := ⟨rfl, rfl, rfl, by decide +kernel, rfl, by decide +kernel, by decide +kernel⟩
def b51 (call : Nat → MF) : MS := (sSeq (sIf (tOrM (tNotM (tTru (mCall (bIsi 5) (aCons (mVar 0) (aCons (mC (.cn 3)) aNil))))) (tV (mBin (dCmpI fun i j => PySem.W.Z.ltB j i) (mCall (bLen) (aCons (mVar 0) aNil)) (mC (.int 2))))) (sRet (mC (.bl false))) sNil) (sSeq (sIf (tNotM (tTru (mCall (bBls allB) (aCons (mLc (iSeq (mVar 0)) (gSet 2) tYesM (mCallN 2 (call 52) (aCons (mVar 2) (aCons (mVar 1) aNil))) [2]) aNil)))) (sRet (mC (.bl false))) sNil) (sRet (mBin (dEq false) (mCall bLenS (aCons (mTop (.sT []) (iSeq (mVar 0)) (gSet 2) tYesM (uSadd (mBin dIx (mVar 2) (mC (.int 0)))) [2]) aNil)) (mCall (bLen) (aCons (mVar 0) aNil))))))
theorem t51 {T : Tb} {n : Nat} {call : Nat → MF} (G : Gs T) (L : Lv T (6 * n) call) : DefAt T (6 * n + 6) ("_are_pairs" : Str) 2 (mDef 2 1 (b51 call)) :=
  G.f51.at 2 1 sc51 rfl rfl fun f cdv A outer s H E c => have c0 : Cn T (6 * n) _ := c.mono (Nat.le_add_right _ 5); have hj : 6 * n + 1 ≤ 6 * n + 5 := Nat.add_le_add_left (by decide) _; (sx_cons (sx_if (PW.pt (tx_or (tx_not (tx_tru c (ex_callB (call_isiM c G.kt G.nc1 G.nc0) (ax_cons (ex_var 0) (ax_cons (ex_ty 3 (hm := G.n_tuple)) ax_nil)) (hm := G.n_isinstance)))) (tx_or1 (tx_cmp op_gtM (fun _ _ _ _ z => z) (ex_callB (call_len4 c) (ax_cons (ex_var 0) ax_nil) (hm := G.n_len)) ex_int rfl)))) (sx_one (sx_ret ex_bl)) sx_nil)
      (sx_cons (sx_if (tx_not (tx_tru c (ex_callB (call_allM c) (ax_cons (ex_lc c [("row", 2)] (ix_seqM c (ex_var 0)) (blkOk_by (N := N51) (sc := defScope s51) (by decide +kernel)) (fun _ _ _ _ _ => (gx_name (Cn.blk c _ _ _ _ _) 2)) (fun _ _ _ _ _ => tsx_nil) (fun _ _ _ _ _ => (ex_call (Cn.blk c0 _ _ _ _ _) L.d52 (ax_cons (ex_var 2) (ax_cons (ex_var 1) ax_nil))))) ax_nil) (hm := G.n_all)))) (sx_one (sx_ret ex_bl)) sx_nil)
      (sx_one (sx_ret (ex_cmp (op_eqM c) (fun _ _ _ _ z => z) (ex_callB (call_lenS c) (ax_cons (ex_sc c [("row", 2)] (ix_seqM c (ex_var 0)) (blkOk_by (N := N51) (sc := defScope s51) (by decide +kernel)) (fun _ _ _ _ _ => (gx_name (Cn.blk c _ _ _ _ _) 2)) (fun _ _ _ _ _ => tsx_nil) (fun _ _ _ _ _ => (ex_ix (Cn.blk c _ _ _ _ _) (ex_var 2) ex_int))) ax_nil) (hm := G.n_len)) (ex_callB (call_len4 c) (ax_cons (ex_var 0) ax_nil) (hm := G.n_len)) rfl)))))
-- _is_pair
abbrev N52 : List Str := ["row", "frames"]
theorem sc52 : FnScope N52 ["row", "frames"] (defScope s52) := ⟨rfl, rfl, rfl, by decide +kernel, rfl, by decide +kernel, by decide +kernel⟩
def b52 (call : Nat → MF) : MS := (sRet (mAnd (mCall (bIsi 5) (aCons (mVar 0) (aCons (mC (.cn 3)) aNil))) (mAnd (mBin (dEq false) (mCall (bLen) (aCons (mVar 0) aNil)) (mC (.int 2))) (mAnd (mCallN 1 (call 48) (aCons (mBin dIx (mVar 0) (mC (.int 0))) aNil)) (mCallN 2 (call 49) (aCons (mBin dIx (mVar 0) (mC (.int 1))) (aCons (mVar 1) aNil)))))))
theorem t52 {T : Tb} {n : Nat} {call : Nat → MF} (G : Gs T) (L : Lv T (6 * n) call) : DefAt T (6 * n + 6) ("_is_pair" : Str) 2 (mDef 2 0 (b52 call)) :=
  G.f52.at 2 0 sc52 rfl rfl fun f cdv A outer s H E c => have c0 : Cn T (6 * n) _ := c.mono (Nat.le_add_right _ 5); have hj : 6 * n + 1 ≤ 6 * n + 5 := Nat.add_le_add_left (by decide) _; (sx_one (sx_ret (ex_and (ex_callB (call_isiM c G.kt G.nc1 G.nc0) (ax_cons (ex_var 0) (ax_cons (ex_ty 3 (hm := G.n_tuple)) ax_nil)) (hm := G.n_isinstance)) (ex_and (ex_cmp (op_eqM c) (fun _ _ _ _ z => z) (ex_callB (call_len4 c) (ax_cons (ex_var 0) ax_nil) (hm := G.n_len)) ex_int rfl) (ex_and (ex_call c0 L.d48 (ax_cons (ex_ix c (ex_var 0) ex_int) ax_nil)) (ex_one (ex_call c0 L.d49 (ax_cons (ex_ix c (ex_var 0) ex_int) (ax_cons (ex_var 1) ax_nil)))))))))
-- _is_shallow
abbrev N53 : List Str := ["frames", "inner", "_", "page", "address", "ends", "first", "second", "third"]
theorem sc53 : FnScope N53 ["frames"] (defScope s53) := ⟨rfl, rfl, rfl, by decide +kernel, rfl, by decide +kernel, by decide +kernel⟩
def b53 (call : Nat → MF) : MS := (sSeq (sLock (mVar 0) (sSet 1 (mTop (.dK false []) (iKeysM (mVar 0)) (gSet 4) tYesM (uPut (mVar 4) (mLc (iSeq (mBin dGet (mVar 0) (mVar 4))) (gTupM 2 (gsCons (gSet 2) (gsCons (gSet 3) gsNil))) tYesM (mVar 3) [2, 3])) [4]))) (sSeq (sLock (mVar 1) (sSet 5 (mTop (.lst false []) (iKeysM (mVar 1)) (gSet 6) tYesM (mCl (iSeq (mBin dGet (mVar 1) (mVar 6))) (gSet 7) tYesM (mCl (iSeq (mBin dGet (mVar 1) (mVar 7))) (gSet 8) tYesM (uApp (mVar 8)) [8]) [7, 8]) [6, 7, 8]))) (sRet (mCall (bBls allB) (aCons (mLc (iSeq (mVar 5)) (gSet 4) tYesM (mBin (dEq false) (mBin dGet (mVar 1) (mVar 4)) (mLst aNil)) [4]) aNil)))))
theorem t53 {T : Tb} {n : Nat} {call : Nat → MF} (G : Gs T) (L : Lv T (6 * n) call) : DefAt T (6 * n + 6) ("_is_shallow" : Str) 1 (mDef 1 8 (b53 call)) :=
  G.f53.at 1 8 sc53 rfl rfl fun f cdv A outer s H E c => have c0 : Cn T (6 * n) _ := c.mono (Nat.le_add_right _ 5); have hj : 6 * n + 1 ≤ 6 * n + 5 := Nat.add_le_add_left (by decide) _; (sx_cons (sx_lock (by first | exact sx_setDc c [("address", 4)] 1 (ix_keysM (ex_var 0)) (blkOk_by (N := N53) (sc := defScope s53) (by decide +kernel)) (fun _ _ _ _ _ => (gx_name (Cn.blk c _ _ _ _ _) 4)) (fun _ _ _ _ _ => tsx_nil) (fun _ _ _ _ _ => (ex_var 4)) (fun _ _ _ _ _ => (ex_lc (Cn.blk c _ _ _ _ _) [("_", 2), ("page", 3)] (ix_seqM (Cn.blk c _ _ _ _ _) (ex_dget (Cn.blk c _ _ _ _ _) (ex_var 0) (ex_var 4))) (blkOk_by (by kernel_rfl)) (fun _ _ _ _ _ => (gx_tup (Cn.blk (Cn.blk c _ _ _ _ _) _ _ _ _ _) (gsx_cons (gx_name (Cn.blk (Cn.blk c _ _ _ _ _) _ _ _ _ _) 2) (gsx_cons (gx_name (Cn.blk (Cn.blk c _ _ _ _ _) _ _ _ _ _) 3) gsx_nil)))) (fun _ _ _ _ _ => tsx_nil) (fun _ _ _ _ _ => (ex_var 3)))) (swd_true rfl rfl rfl (by decide +kernel)) | exact sx_set c 1 (ex_dc1 c [("address", 4)] (ix_keysM (ex_var 0)) (blkOk_by (N := N53) (sc := defScope s53) (by decide +kernel)) (fun _ _ _ _ _ => (gx_name (Cn.blk c _ _ _ _ _) 4)) (fun _ _ _ _ _ => tsx_nil) (fun _ _ _ _ _ => (ex_var 4)) (fun _ _ _ _ _ => (ex_lc (Cn.blk c _ _ _ _ _) [("_", 2), ("page", 3)] (ix_seqM (Cn.blk c _ _ _ _ _) (ex_dget (Cn.blk c _ _ _ _ _) (ex_var 0) (ex_var 4))) (blkOk_by (by kernel_rfl)) (fun _ _ _ _ _ => (gx_tup (Cn.blk (Cn.blk c _ _ _ _ _) _ _ _ _ _) (gsx_cons (gx_name (Cn.blk (Cn.blk c _ _ _ _ _) _ _ _ _ _) 2) (gsx_cons (gx_name (Cn.blk (Cn.blk c _ _ _ _ _) _ _ _ _ _) 3) gsx_nil)))) (fun _ _ _ _ _ => tsx_nil) (fun _ _ _ _ _ => (ex_var 3)))))))
      (sx_cons (sx_lock (by first | exact sx_setLcM c [("first", 6), ("second", 7), ("third", 8)] 5 (ix_keysM (ex_var 1)) (blkOk_by (N := N53) (sc := defScope s53) (by decide +kernel)) (fun _ _ _ _ _ => (gx_name (Cn.blk c _ _ _ _ _) 6)) (fun _ _ _ _ _ => tsx_nil) (fun _ _ _ _ _ _ => (un_mid (Cn.blk c _ _ _ _ _) (ix_seqM (Cn.blk c _ _ _ _ _) (ex_dget (Cn.blk c _ _ _ _ _) (ex_var 1) (ex_var 6))) (gx_name (Cn.blk c _ _ _ _ _) 7) tsx_nil (un_lastL (Cn.blk c _ _ _ _ _) (ix_seqM (Cn.blk c _ _ _ _ _) (ex_dget (Cn.blk c _ _ _ _ _) (ex_var 1) (ex_var 7))) (gx_name (Cn.blk c _ _ _ _ _) 8) tsx_nil (ex_var 8)))) (sw_true rfl rfl rfl (by decide +kernel)) | exact sx_set c 5 (ex_lcM c [("first", 6), ("second", 7), ("third", 8)] (ix_keysM (ex_var 1)) (blkOk_by (N := N53) (sc := defScope s53) (by decide +kernel)) (fun _ _ _ _ _ => (gx_name (Cn.blk c _ _ _ _ _) 6)) (fun _ _ _ _ _ => tsx_nil) (fun _ _ _ _ _ _ => (un_mid (Cn.blk c _ _ _ _ _) (ix_seqM (Cn.blk c _ _ _ _ _) (ex_dget (Cn.blk c _ _ _ _ _) (ex_var 1) (ex_var 6))) (gx_name (Cn.blk c _ _ _ _ _) 7) tsx_nil (un_lastL (Cn.blk c _ _ _ _ _) (ix_seqM (Cn.blk c _ _ _ _ _) (ex_dget (Cn.blk c _ _ _ _ _) (ex_var 1) (ex_var 7))) (gx_name (Cn.blk c _ _ _ _ _) 8) tsx_nil (ex_var 8)))))))
      (sx_one (sx_ret (ex_callB (call_allM c) (ax_cons (ex_lc c [("address", 4)] (ix_seqM c (ex_var 5)) (blkOk_by (N := N53) (sc := defScope s53) (by decide +kernel)) (fun _ _ _ _ _ => (gx_name (Cn.blk c _ _ _ _ _) 4)) (fun _ _ _ _ _ => tsx_nil) (fun _ _ _ _ _ => (ex_cmp (op_eqM (Cn.blk c _ _ _ _ _)) (fun _ _ _ _ z => z) (ex_dget (Cn.blk c _ _ _ _ _) (ex_var 1) (ex_var 4)) (ex_lst ax_nil) rfl))) ax_nil) (hm := G.n_all))))))
-- _are_links
abbrev N54 : List Str := ["value", "frames", "address"]
theorem sc54 : FnScope N54 ["value", "frames"] (defScope s54) := ⟨rfl, rfl, rfl, by decide +kernel, rfl, by decide +kernel, by decide +kernel⟩
def b54 (call : Nat → MF) : MS := (sSeq (sIf (tOrM (tNotM (tTru (mCall (bIsi 5) (aCons (mVar 0) (aCons (mC (.cn 5)) aNil))))) (tV (mBin (dEq true) (mCall (bLen) (aCons (mVar 0) aNil)) (mCall (bLen) (aCons (mVar 1) aNil))))) (sRet (mC (.bl false))) sNil) (sRet (mCall (bBls allB) (aCons (mLock (mVar 1) (mLc (iKeysM (mVar 1)) (gSet 2) tYesM (mAnd (mBin (dHas false) (mVar 2) (mVar 0)) (mCallN 2 (call 55) (aCons (mBin dGet (mVar 0) (mVar 2)) (aCons (mVar 1) aNil)))) [2])) aNil))))
theorem t54 {T : Tb} {n : Nat} {call : Nat → MF} (G : Gs T) (L : Lv T (6 * n) call) : DefAt T (6 * n + 6) ("_are_links" : Str) 2 (mDef 2 1 (b54 call)) :=
  G.f54.at 2 1 sc54 rfl rfl fun f cdv A outer s H E c => have c0 : Cn T (6 * n) _ := c.mono (Nat.le_add_right _ 5); have hj : 6 * n + 1 ≤ 6 * n + 5 := Nat.add_le_add_left (by decide) _; (sx_cons (sx_if (PW.pt (tx_or (tx_not (tx_tru c (ex_callB (call_isiM c G.kt G.nc1 G.nc0) (ax_cons (ex_var 0) (ax_cons (ex_ty 5 (hm := G.n_dict)) ax_nil)) (hm := G.n_isinstance)))) (tx_or1 (tx_cmp (op_neM c) (fun _ _ _ _ z => z) (ex_callB (call_len4 c) (ax_cons (ex_var 0) ax_nil) (hm := G.n_len)) (ex_callB (call_len4 c) (ax_cons (ex_var 1) ax_nil) (hm := G.n_len)) rfl)))) (sx_one (sx_ret ex_bl)) sx_nil)
      (sx_one (sx_ret (ex_callB (call_allM c) (ax_cons (ex_lock (ex_lc c [("address", 2)] (ix_keysM (ex_var 1)) (blkOk_by (N := N54) (sc := defScope s54) (by decide +kernel)) (fun _ _ _ _ _ => (gx_name (Cn.blk c _ _ _ _ _) 2)) (fun _ _ _ _ _ => tsx_nil) (fun _ _ _ _ _ => (ex_and (ex_din (Cn.blk c _ _ _ _ _) (ex_var 2) (ex_var 0)) (ex_one (ex_call (Cn.blk c0 _ _ _ _ _) L.d55 (ax_cons (ex_dget (Cn.blk c _ _ _ _ _) (ex_var 0) (ex_var 2)) (ax_cons (ex_var 1) ax_nil)))))))) ax_nil) (hm := G.n_all)))))
-- _are_addresses
abbrev N55 : List Str := ["value", "frames", "address"]
theorem sc55 : FnScope N55 ["value", "frames"] (defScope s55) := ⟨rfl, rfl, rfl, by decide +kernel, rfl, by decide +kernel, by decide +kernel⟩
def b55 (call : Nat → MF) : MS := (sSeq (sIf (tOrM (tNotM (tTru (mCall (bIsi 5) (aCons (mVar 0) (aCons (mC (.cn 3)) aNil))))) (tNotM (tTru (mCall (bBls allB) (aCons (mLc (iSeq (mVar 0)) (gSet 2) tYesM (mCallN 2 (call 49) (aCons (mVar 2) (aCons (mVar 1) aNil))) [2]) aNil))))) (sRet (mC (.bl false))) sNil) (sRet (mBin (dEq false) (mCall bLenS (aCons (mCall (bSet) (aCons (mVar 0) aNil)) aNil)) (mCall (bLen) (aCons (mVar 0) aNil)))))
theorem t55 {T : Tb} {n : Nat} {call : Nat → MF} (G : Gs T) (L : Lv T (6 * n) call) : DefAt T (6 * n + 6) ("_are_addresses" : Str) 2 (mDef 2 1 (b55 call)) :=
  G.f55.at 2 1 sc55 rfl rfl fun f cdv A outer s H E c => have c0 : Cn T (6 * n) _ := c.mono (Nat.le_add_right _ 5); have hj : 6 * n + 1 ≤ 6 * n + 5 := Nat.add_le_add_left (by decide) _; (sx_cons (sx_if (PW.pt (tx_or (tx_not (tx_tru c (ex_callB (call_isiM c G.kt G.nc1 G.nc0) (ax_cons (ex_var 0) (ax_cons (ex_ty 3 (hm := G.n_tuple)) ax_nil)) (hm := G.n_isinstance)))) (tx_or1 (tx_not (tx_tru c (ex_callB (call_allM c) (ax_cons (ex_lc c [("address", 2)] (ix_seqM c (ex_var 0)) (blkOk_by (N := N55) (sc := defScope s55) (by decide +kernel)) (fun _ _ _ _ _ => (gx_name (Cn.blk c _ _ _ _ _) 2)) (fun _ _ _ _ _ => tsx_nil) (fun _ _ _ _ _ => (ex_call (Cn.blk c0 _ _ _ _ _) L.d49 (ax_cons (ex_var 2) (ax_cons (ex_var 1) ax_nil))))) ax_nil) (hm := G.n_all))))))) (sx_one (sx_ret ex_bl)) sx_nil)
      (sx_one (sx_ret (ex_cmp (op_eqM c) (fun _ _ _ _ z => z) (ex_callB (call_lenS c) (ax_cons (ex_callTy (call_setM c) (ax_cons (ex_var 0) ax_nil) (hm := G.n_set)) ax_nil) (hm := G.n_len)) (ex_callB (call_len4 c) (ax_cons (ex_var 0) ax_nil) (hm := G.n_len)) rfl))))
-- _is_cap
abbrev N56 : List Str := ["value"]
theorem sc56 : FnScope N56 ["value"] (defScope s56) := ⟨rfl, rfl, rfl, by decide +kernel, rfl, by decide +kernel, by decide +kernel⟩
def b56 (call : Nat → MF) : MS := (sRet (mAnd (mCall (bIsi 5) (aCons (mVar 0) (aCons (mC (.cn 0)) aNil))) (mAnd (mNot (mCall (bIsi 5) (aCons (mVar 0) (aCons (mC (.cn 2)) aNil)))) (mChain dLe dLe (mC (.int 2)) (mVar 0) (mC (.int 4))))))
theorem t56 {T : Tb} {n : Nat} {call : Nat → MF} (G : Gs T) (L : Lv T (6 * n) call) : DefAt T (6 * n + 6) ("_is_cap" : Str) 1 (mDef 1 0 (b56 call)) :=
  G.f56.at 1 0 sc56 rfl rfl fun f cdv A outer s H E c => have c0 : Cn T (6 * n) _ := c.mono (Nat.le_add_right _ 5); have hj : 6 * n + 1 ≤ 6 * n + 5 := Nat.add_le_add_left (by decide) _; (sx_one (sx_ret (ex_and (ex_callB (call_isiM c G.kt G.nc1 G.nc0) (ax_cons (ex_var 0) (ax_cons (ex_ty 0 (hm := G.n_int)) ax_nil)) (hm := G.n_isinstance)) (ex_and (ex_not (ex_callB (call_isiM c G.kt G.nc1 G.nc0) (ax_cons (ex_var 0) (ax_cons (ex_ty 2 (hm := G.n_bool)) ax_nil)) (hm := G.n_isinstance))) (ex_one (ex_chain op_leM op_leM ex_int (ex_var 0) ex_int))))))
-- _plain_pairs
abbrev N57 : List Str := ["rows", "name", "address"]
theorem sc57 : FnScope N57 ["rows"] (defScope s57) := ⟨rfl, rfl, rfl, by decide +kernel, rfl, by decide +kernel, by decide +kernel⟩
def b57 (call : Nat → MF) : MS := (sRet (mCall (bTup) (aCons (mLc (iSeq (mVar 0)) (gTupM 2 (gsCons (gSet 1) (gsCons (gSet 2) gsNil))) tYesM (mTup (aCons (mVar 1) (aCons (mVar 2) aNil))) [1, 2]) aNil)))
theorem t57 {T : Tb} {n : Nat} {call : Nat → MF} (G : Gs T) (L : Lv T (6 * n) call) : DefAt T (6 * n + 6) ("_plain_pairs" : Str) 1 (mDef 1 2 (b57 call)) :=
  G.f57.at 1 2 sc57 rfl rfl fun f cdv A outer s H E c => have c0 : Cn T (6 * n) _ := c.mono (Nat.le_add_right _ 5); have hj : 6 * n + 1 ≤ 6 * n + 5 := Nat.add_le_add_left (by decide) _; (sx_one (sx_ret (ex_callTy (call_tup2 c) (ax_cons (ex_lc c [("name", 1), ("address", 2)] (ix_seqM c (ex_var 0)) (blkOk_by (N := N57) (sc := defScope s57) (by decide +kernel)) (fun _ _ _ _ _ => (gx_tup (Cn.blk c _ _ _ _ _) (gsx_cons (gx_name (Cn.blk c _ _ _ _ _) 1) (gsx_cons (gx_name (Cn.blk c _ _ _ _ _) 2) gsx_nil)))) (fun _ _ _ _ _ => tsx_nil) (fun _ _ _ _ _ => (ex_tup (ax_cons (ex_var 1) (ax_cons (ex_var 2) ax_nil))))) ax_nil) (hm := G.n_tuple))))
-- _depth
abbrev N58 : List Str := ["frames", "address", "_", "page"]
theorem sc58 : FnScope N58 ["frames", "address"] (defScope s58) := ⟨rfl, rfl, rfl, by decide +kernel, rfl, by decide +kernel, by decide +kernel⟩
def b58 (call : Nat → MF) : MS := (sRet (mBin dMaxD (mLc (iSeq (mBin dGet (mVar 0) (mVar 1))) (gTupM 2 (gsCons (gSet 2) (gsCons (gSet 3) gsNil))) tYesM (mBin dAdd (mC (.int 1)) (mCallN 2 (call 58) (aCons (mVar 0) (aCons (mVar 3) aNil)))) [2, 3]) (mC (.int 0))))
theorem t58 {T : Tb} {n : Nat} {call : Nat → MF} (G : Gs T) (L : Lv T (6 * n) call) : DefAt T (6 * n + 6) ("_depth" : Str) 2 (mDef 2 2 (b58 call)) :=
  G.f58.at 2 2 sc58 rfl rfl fun f cdv A outer s H E c => have c0 : Cn T (6 * n) _ := c.mono (Nat.le_add_right _ 5); have hj : 6 * n + 1 ≤ 6 * n + 5 := Nat.add_le_add_left (by decide) _; (sx_one (sx_ret (ex_maxD c (ex_lc c [("_", 2), ("page", 3)] (ix_seqM c (ex_dget c (ex_var 0) (ex_var 1))) (blkOk_by (N := N58) (sc := defScope s58) (by decide +kernel)) (fun _ _ _ _ _ => (gx_tup (Cn.blk c _ _ _ _ _) (gsx_cons (gx_name (Cn.blk c _ _ _ _ _) 2) (gsx_cons (gx_name (Cn.blk c _ _ _ _ _) 3) gsx_nil)))) (fun _ _ _ _ _ => tsx_nil) (fun _ _ _ _ _ => (ex_op (op_addM (Cn.blk c _ _ _ _ _)) (fun _ _ _ _ z => z) ex_int (ex_call (Cn.blk c0 _ _ _ _ _) L.d58 (ax_cons (ex_var 0) (ax_cons (ex_var 3) ax_nil)))))) ex_int G.n_max)))
-- check_site
abbrev N59 : List Str := ["site"]
theorem sc59 : FnScope N59 ["site"] (defScope s59) := ⟨rfl, rfl, rfl, by decide +kernel, rfl, by decide +kernel, by decide +kernel⟩
def b59 (call : Nat → MF) : MS := (sIf (tNotM (tTru (mCall (bIsi 5) (aCons (mVar 0) (aCons (mC (.cn (Nat.add 16 1))) aNil))))) sNever sNil)
theorem t59 {T : Tb} {n : Nat} {call : Nat → MF} (G : Gs T) (L : Lv T (6 * n) call) : DefAt T (6 * n + 6) ("check_site" : Str) 1 (mDef 1 0 (b59 call)) :=
  G.f59.at 1 0 sc59 rfl rfl fun f cdv A outer s H E c => have c0 : Cn T (6 * n) _ := c.mono (Nat.le_add_right _ 5); have hj : 6 * n + 1 ≤ 6 * n + 5 := Nat.add_le_add_left (by decide) _; (sx_one (sx_if (tx_not (tx_tru c (ex_callB (call_isiM c G.kt G.nc1 G.nc0) (ax_cons (ex_var 0) (ax_cons (ex_cls c 1 G.c_Site) ax_nil)) (hm := G.n_isinstance)))) (sx_one sx_never) sx_nil))
-- ordered_cares
abbrev N60 : List Str := ["cares", "care"]
theorem sc60 : FnScope N60 ["cares"] (defScope s60) := ⟨rfl, rfl, rfl, by decide +kernel, rfl, by decide +kernel, by decide +kernel⟩
def b60 (call : Nat → MF) : MS := (sSeq (sIf (tOrM (tNotM (tTru (mIsiT 5 (mVar 0) (aCons (mC (.cn 4)) (aCons (mC (.cn 3)) aNil))))) (tNotM (tTru (mCall (bBls allB) (aCons (mLc (iSeq (mVar 0)) (gSet 1) tYesM (mCallN 1 (call 63) (aCons (mVar 1) aNil)) [1]) aNil))))) sNever sNil) (sSeq (sIf (tV (mBin (dEq true) (mCall bLenS (aCons (mCall (bSet) (aCons (mVar 0) aNil)) aNil)) (mCall (bLen) (aCons (mVar 0) aNil)))) sNever sNil) (sRet (mCall (bTup) (aCons (mLc (iSeq (mC (.tup [(.str [106, 111, 105, 110, 116]), (.str [112, 114, 117, 110, 101, 115]), (.str [110, 101, 115, 116, 115]), (.str [110, 97, 109, 101, 115]), (.str [115, 116, 97, 116, 101, 115]), (.str [109, 101, 114, 103, 101, 115]), (.str [99, 111, 118, 101, 114, 115]), (.str [115, 104, 97, 114, 101, 115]), (.str [104, 111, 108, 100, 115])]))) (gSet 1) (tV (mBin (dIn false) (mVar 1) (mVar 0))) (mVar 1) [1]) aNil)))))
theorem t60 {T : Tb} {n : Nat} {call : Nat → MF} (G : Gs T) (L : Lv T (6 * n) call) : DefAt T (6 * n + 6) ("ordered_cares" : Str) 1 (mDef 1 1 (b60 call)) :=
  G.f60.at 1 1 sc60 rfl rfl fun f cdv A outer s H E c => have c0 : Cn T (6 * n) _ := c.mono (Nat.le_add_right _ 5); have hj : 6 * n + 1 ≤ 6 * n + 5 := Nat.add_le_add_left (by decide) _; (sx_cons (sx_if (PW.pt (tx_or (tx_not (tx_tru c (ex_isiT c G.kt G.nc1 G.nc0 (ex_var 0) (ax_cons (ex_ty 4 (hm := G.n_list)) (ax_cons (ex_ty 3 (hm := G.n_tuple)) ax_nil)) (hm := G.n_isinstance)))) (tx_or1 (tx_not (tx_tru c (ex_callB (call_allM c) (ax_cons (ex_lc c [("care", 1)] (ix_seqM c (ex_var 0)) (blkOk_by (N := N60) (sc := defScope s60) (by decide +kernel)) (fun _ _ _ _ _ => (gx_name (Cn.blk c _ _ _ _ _) 1)) (fun _ _ _ _ _ => tsx_nil) (fun _ _ _ _ _ => (ex_call (Cn.blk c0 _ _ _ _ _) L.d63 (ax_cons (ex_var 1) ax_nil)))) ax_nil) (hm := G.n_all))))))) (sx_one sx_never) sx_nil)
      (sx_cons (sx_if (tx_cmp (op_neM c) (fun _ _ _ _ z => z) (ex_callB (call_lenS c) (ax_cons (ex_callTy (call_setM c) (ax_cons (ex_var 0) ax_nil) (hm := G.n_set)) ax_nil) (hm := G.n_len)) (ex_callB (call_len4 c) (ax_cons (ex_var 0) ax_nil) (hm := G.n_len)) rfl) (sx_one sx_never) sx_nil)
      (sx_one (sx_ret (ex_callTy (call_tup2 c) (ax_cons (ex_lc c [("care", 1)] (ix_seqM c (ex_gcon c G.g_ALL_CARES)) (blkOk_by (N := N60) (sc := defScope s60) (by decide +kernel)) (fun _ _ _ _ _ => (gx_name (Cn.blk c _ _ _ _ _) 1)) (fun _ _ _ _ _ => (tsx_one (tx_cmp (op_inM (Cn.blk c _ _ _ _ _)) (fun _ _ _ _ z => z) (ex_var 1) (ex_var 0) rfl))) (fun _ _ _ _ _ => (ex_var 1))) ax_nil) (hm := G.n_tuple))))))
-- is_path
abbrev N61 : List Str := ["site", "value", "names", "name"]
theorem sc61 : FnScope N61 ["site", "value"] (defScope s61) := ⟨rfl, rfl, rfl, by decide +kernel, rfl, by decide +kernel, by decide +kernel⟩
def b61 (call : Nat → MF) : MS := (sSeq (sIf (tOrM (tNotM (tTru (mCall (bIsi 5) (aCons (mVar 1) (aCons (mC (.cn 3)) aNil))))) (tV (mBin (dCmpI fun i j => PySem.W.Z.ltB j i) (mCall (bLen) (aCons (mVar 1) aNil)) (mC (.int 2))))) (sRet (mC (.bl false))) sNil) (sSeq (sSet 2 (mMethN 1 (fun _ => false) 1 (call 43) (mVar 0) aNil)) (sRet (mCall (bBls allB) (aCons (mLc (iSeq (mVar 1)) (gSet 3) tYesM (mAnd (mCall (bIsi 5) (aCons (mVar 3) (aCons (mC (.cn 1)) aNil))) (mBin (dIn false) (mVar 3) (mVar 2))) [3]) aNil)))))
theorem t61 {T : Tb} {n : Nat} {call : Nat → MF} (G : Gs T) (L : Lv T (6 * n) call) : DefAt T (6 * n + 6) ("is_path" : Str) 2 (mDef 2 2 (b61 call)) :=
  G.f61.at 2 2 sc61 rfl rfl fun f cdv A outer s H E c => have c0 : Cn T (6 * n) _ := c.mono (Nat.le_add_right _ 5); have hj : 6 * n + 1 ≤ 6 * n + 5 := Nat.add_le_add_left (by decide) _; (sx_cons (sx_if (PW.pt (tx_or (tx_not (tx_tru c (ex_callB (call_isiM c G.kt G.nc1 G.nc0) (ax_cons (ex_var 1) (ax_cons (ex_ty 3 (hm := G.n_tuple)) ax_nil)) (hm := G.n_isinstance)))) (tx_or1 (tx_cmp op_gtM (fun _ _ _ _ z => z) (ex_callB (call_len4 c) (ax_cons (ex_var 1) ax_nil) (hm := G.n_len)) ex_int rfl)))) (sx_one (sx_ret ex_bl)) sx_nil)
      (sx_cons (sx_set c 2 (ex_meth0 c0 L.d43 _ (fun f h _ => G.m_frame_names f h) (ex_var 0)))
      (sx_one (sx_ret (ex_callB (call_allM c) (ax_cons (ex_lc c [("name", 3)] (ix_seqM c (ex_var 1)) (blkOk_by (N := N61) (sc := defScope s61) (by decide +kernel)) (fun _ _ _ _ _ => (gx_name (Cn.blk c _ _ _ _ _) 3)) (fun _ _ _ _ _ => tsx_nil) (fun _ _ _ _ _ => (ex_and (ex_callB (call_isiM (Cn.blk c _ _ _ _ _) G.kt G.nc1 G.nc0) (ax_cons (ex_var 3) (ax_cons (ex_ty 1 (hm := G.n_str)) ax_nil)) (hm := G.n_isinstance)) (ex_one (ex_cmp (op_inM (Cn.blk c _ _ _ _ _)) (fun _ _ _ _ z => z) (ex_var 3) (ex_var 2) rfl))))) ax_nil) (hm := G.n_all))))))
-- is_address
abbrev N62 : List Str := ["site", "value"]
theorem sc62 : FnScope N62 ["site", "value"] (defScope s62) := ⟨rfl, rfl, rfl, by decide +kernel, rfl, by decide +kernel, by decide +kernel⟩
def b62 (call : Nat → MF) : MS := (sRet (mAnd (mCall (bIsi 5) (aCons (mVar 1) (aCons (mC (.cn 1)) aNil))) (mBin (dIn false) (mVar 1) (mMethN 1 (fun _ => false) 1 (call 42) (mVar 0) aNil))))
theorem t62 {T : Tb} {n : Nat} {call : Nat → MF} (G : Gs T) (L : Lv T (6 * n) call) : DefAt T (6 * n + 6) ("is_address" : Str) 2 (mDef 2 0 (b62 call)) :=
  G.f62.at 2 0 sc62 rfl rfl fun f cdv A outer s H E c => have c0 : Cn T (6 * n) _ := c.mono (Nat.le_add_right _ 5); have hj : 6 * n + 1 ≤ 6 * n + 5 := Nat.add_le_add_left (by decide) _; (sx_one (sx_ret (ex_and (ex_callB (call_isiM c G.kt G.nc1 G.nc0) (ax_cons (ex_var 1) (ax_cons (ex_ty 1 (hm := G.n_str)) ax_nil)) (hm := G.n_isinstance)) (ex_one (ex_cmp (op_inM c) (fun _ _ _ _ z => z) (ex_var 1) (ex_meth0 c0 L.d42 _ (fun f h _ => G.m_addresses f h) (ex_var 0)) rfl)))))
-- _is_care
abbrev N63 : List Str := ["value"]
theorem sc63 : FnScope N63 ["value"] (defScope s63) := ⟨rfl, rfl, rfl, by decide +kernel, rfl, by decide +kernel, by decide +kernel⟩
def b63 (call : Nat → MF) : MS := (sRet (mAnd (mCall (bIsi 5) (aCons (mVar 0) (aCons (mC (.cn 1)) aNil))) (mBin (dIn false) (mVar 0) (mC (.tup [(.str [106, 111, 105, 110, 116]), (.str [112, 114, 117, 110, 101, 115]), (.str [110, 101, 115, 116, 115]), (.str [110, 97, 109, 101, 115]), (.str [115, 116, 97, 116, 101, 115]), (.str [109, 101, 114, 103, 101, 115]), (.str [99, 111, 118, 101, 114, 115]), (.str [115, 104, 97, 114, 101, 115]), (.str [104, 111, 108, 100, 115])])))))
theorem t63 {T : Tb} {n : Nat} {call : Nat → MF} (G : Gs T) (L : Lv T (6 * n) call) : DefAt T (6 * n + 6) ("_is_care" : Str) 1 (mDef 1 0 (b63 call)) :=
  G.f63.at 1 0 sc63 rfl rfl fun f cdv A outer s H E c => have c0 : Cn T (6 * n) _ := c.mono (Nat.le_add_right _ 5); have hj : 6 * n + 1 ≤ 6 * n + 5 := Nat.add_le_add_left (by decide) _; (sx_one (sx_ret (ex_and (ex_callB (call_isiM c G.kt G.nc1 G.nc0) (ax_cons (ex_var 0) (ax_cons (ex_ty 1 (hm := G.n_str)) ax_nil)) (hm := G.n_isinstance)) (ex_one (ex_cmp (op_inM c) (fun _ _ _ _ z => z) (ex_var 0) (ex_gcon c G.g_ALL_CARES) rfl)))))
-- loaded_tree
abbrev N64 : List Str := ["site", "address", "fresh", "number", "frames", "name", "page", "tree"]
theorem sc64 : FnScope N64 ["site", "address", "fresh"] (defScope s64) := ⟨rfl, rfl, rfl, by decide +kernel, rfl, by decide +kernel, by decide +kernel⟩
def b64 (call : Nat → MF) : MS := (sSeq (sSet 3 (mVar 2)) (sSeq (sSet 2 (mBin dAddI (mVar 2) (mC (.int 1)))) (sSeq (sSet 4 (mLst aNil)) (sSeq (sFor (gTupM 2 (gsCons (gSet 5) (gsCons (gSet 6) gsNil))) (iSeq (mMethN 1 (fun _ => false) 2 (call 44) (mVar 0) (aCons (mVar 1) aNil))) (sSeq (sAsg (gTupM 2 (gsCons (gSet 7) (gsCons (gSet 2) gsNil))) (mCallN 3 (call 64) (aCons (mVar 0) (aCons (mVar 6) (aCons (mVar 2) aNil))))) (sExpr (mBM fAppend (mVar 4) (aCons (mTup (aCons (mVar 5) (aCons (mVar 7) aNil))) aNil))))) (sRet (mTup (aCons (mTup (aCons (mVar 3) (aCons (mVar 1) (aCons (mC (.int 0)) (aCons (mCall (bTup) (aCons (mVar 4) aNil)) aNil))))) (aCons (mVar 2) aNil))))))))
theorem t64 {T : Tb} {n : Nat} {call : Nat → MF} (G : Gs T) (L : Lv T (6 * n) call) : DefAt T (6 * n + 6) ("loaded_tree" : Str) 3 (mDef 3 5 (b64 call)) :=
  G.f64.at 3 5 sc64 rfl rfl fun f cdv A outer s H E c => have c0 : Cn T (6 * n) _ := c.mono (Nat.le_add_right _ 5); have hj : 6 * n + 1 ≤ 6 * n + 5 := Nat.add_le_add_left (by decide) _; (sx_cons (sx_set c 3 (ex_var 2))
      (sx_cons (sx_aug c 2 ex_int ip_addM)
      (sx_cons (sx_set c 4 (ex_lst ax_nil))
      (sx_cons (sx_for c (ix_seqM c (ex_meth c0 L.d44 _ (fun f h _ => G.m_frames_of f h) (ex_var 0) (ax_cons (ex_var 1) ax_nil))) (gx_tup c (gsx_cons (gx_name c 5) (gsx_cons (gx_name c 6) gsx_nil)))
      (sx_cons (sx_asg (ex_call c0 L.d64 (ax_cons (ex_var 0) (ax_cons (ex_var 6) (ax_cons (ex_var 2) ax_nil)))) (gx_tup c (gsx_cons (gx_name c 7) (gsx_cons (gx_name c 2) gsx_nil))))
      (sx_one (sx_expr (ex_bm c PySem.F.slot_list_append PySem.F.type_list_append mt_appendM (ex_var 4) (ax_cons (ex_tup (ax_cons (ex_var 5) (ax_cons (ex_var 7) ax_nil))) ax_nil))))))
      (sx_one (sx_ret (ex_tup (ax_cons (ex_tup (ax_cons (ex_var 3) (ax_cons (ex_var 1) (ax_cons ex_int (ax_cons (ex_callTy (call_tup2 c) (ax_cons (ex_var 4) ax_nil) (hm := G.n_tuple)) ax_nil))))) (ax_cons (ex_var 2) ax_nil)))))))))
-- tree_at
abbrev N65 : List Str := ["tree", "path", "name", "inner", "word", "part"]
theorem sc65 : FnScope N65 ["tree", "path"] (defScope s65) := ⟨rfl, rfl, rfl, by decide +kernel, rfl, by decide +kernel, by decide +kernel⟩
def b65 (call : Nat → MF) : MS := (sSeq (sFor (gSet 2) (iSeq (mVar 1)) (sSeq (sSet 3 (mLc (iSeq (mBin dIx (mVar 0) (mC (.int 3)))) (gTupM 2 (gsCons (gSet 4) (gsCons (gSet 5) gsNil))) (tV (mBin (dEq false) (mVar 4) (mVar 2))) (mVar 5) [4, 5])) (sSeq (sIf (tV (mBin (dEq false) (mVar 3) (mLst aNil))) (sRet (mC .non)) sNil) (sSet 0 (mBin dIx (mVar 3) (mC (.int 0))))))) (sRet (mVar 0)))
theorem t65 {T : Tb} {n : Nat} {call : Nat → MF} (G : Gs T) (L : Lv T (6 * n) call) : DefAt T (6 * n + 6) ("tree_at" : Str) 2 (mDef 2 4 (b65 call)) :=
  G.f65.at 2 4 sc65 rfl rfl fun f cdv A outer s H E c => have c0 : Cn T (6 * n) _ := c.mono (Nat.le_add_right _ 5); have hj : 6 * n + 1 ≤ 6 * n + 5 := Nat.add_le_add_left (by decide) _; (sx_cons (sx_for c (ix_seqM c (ex_var 1)) (gx_name c 2)
      (sx_cons (by first | exact sx_setLc c [("word", 4), ("part", 5)] 3 (ix_seqM c (ex_ix c (ex_var 0) ex_int)) (blkOk_by (N := N65) (sc := defScope s65) (by decide +kernel)) (fun _ _ _ _ _ => (gx_tup (Cn.blk c _ _ _ _ _) (gsx_cons (gx_name (Cn.blk c _ _ _ _ _) 4) (gsx_cons (gx_name (Cn.blk c _ _ _ _ _) 5) gsx_nil)))) (fun _ _ _ _ _ => (tsx_one (tx_cmp (op_eqM (Cn.blk c _ _ _ _ _)) (fun _ _ _ _ z => z) (ex_var 4) (ex_var 2) rfl))) (fun _ _ _ _ _ => (ex_var 5)) (sw_true rfl rfl rfl (by decide +kernel)) | exact sx_set c 3 (ex_lc c [("word", 4), ("part", 5)] (ix_seqM c (ex_ix c (ex_var 0) ex_int)) (blkOk_by (N := N65) (sc := defScope s65) (by decide +kernel)) (fun _ _ _ _ _ => (gx_tup (Cn.blk c _ _ _ _ _) (gsx_cons (gx_name (Cn.blk c _ _ _ _ _) 4) (gsx_cons (gx_name (Cn.blk c _ _ _ _ _) 5) gsx_nil)))) (fun _ _ _ _ _ => (tsx_one (tx_cmp (op_eqM (Cn.blk c _ _ _ _ _)) (fun _ _ _ _ z => z) (ex_var 4) (ex_var 2) rfl))) (fun _ _ _ _ _ => (ex_var 5))))
      (sx_cons (sx_if (tx_cmp (op_eqM c) (fun _ _ _ _ z => z) (ex_var 3) (ex_lst ax_nil) rfl) (sx_one (sx_ret ex_non)) sx_nil)
      (sx_one (sx_set c 0 (ex_ix c (ex_var 3) ex_int))))))
      (sx_one (sx_ret (ex_var 0))))
-- replaced
abbrev N66 : List Str := ["tree", "path", "part", "number", "address", "state", "frames", "rest", "rows", "name", "inner"]
theorem sc66 : FnScope N66 ["tree", "path", "part"] (defScope s66) := ⟨rfl, rfl, rfl, by decide +kernel, rfl, by decide +kernel, by decide +kernel⟩
def b66 (call : Nat → MF) : MS := (sSeq (sIf (tV (mBin (dEq false) (mVar 1) (mTup aNil))) (sRet (mVar 2)) sNil) (sSeq (sAsg (gTupM 4 (gsCons (gSet 3) (gsCons (gSet 4) (gsCons (gSet 5) (gsCons (gSet 6) gsNil))))) (mVar 0)) (sSeq (sSet 7 (mSlice (mVar 1) (some (mC (.int 1))) none)) (sSeq (sSet 8 (mLc (iSeq (mVar 6)) (gTupM 2 (gsCons (gSet 9) (gsCons (gSet 10) gsNil))) tYesM (mTup (aCons (mVar 9) (aCons (mIf (tV (mBin (dEq false) (mVar 9) (mBin dIx (mVar 1) (mC (.int 0))))) (mCallN 3 (call 66) (aCons (mVar 10) (aCons (mVar 7) (aCons (mVar 2) aNil)))) (mVar 10)) aNil))) [9, 10])) (sRet (mTup (aCons (mVar 3) (aCons (mVar 4) (aCons (mVar 5) (aCons (mCall (bTup) (aCons (mVar 8) aNil)) aNil))))))))))
theorem t66 {T : Tb} {n : Nat} {call : Nat → MF} (G : Gs T) (L : Lv T (6 * n) call) : DefAt T (6 * n + 6) ("replaced" : Str) 3 (mDef 3 8 (b66 call)) :=
  G.f66.at 3 8 sc66 rfl rfl fun f cdv A outer s H E c => have c0 : Cn T (6 * n) _ := c.mono (Nat.le_add_right _ 5); have hj : 6 * n + 1 ≤ 6 * n + 5 := Nat.add_le_add_left (by decide) _; (sx_cons (sx_if (tx_cmp (op_eqM c) (fun _ _ _ _ z => z) (ex_var 1) (ex_tup ax_nil) rfl) (sx_one (sx_ret (ex_var 2))) sx_nil)
      (sx_cons (sx_asg (ex_var 0) (gx_tup c (gsx_cons (gx_name c 3) (gsx_cons (gx_name c 4) (gsx_cons (gx_name c 5) (gsx_cons (gx_name c 6) gsx_nil))))))
      (sx_cons (sx_set c 7 (ex_slice c (ex_var 1) (ox_some ex_int) ox_none))
      (sx_cons (by first | exact sx_setLc c [("name", 9), ("inner", 10)] 8 (ix_seqM c (ex_var 6)) (blkOk_by (N := N66) (sc := defScope s66) (by decide +kernel)) (fun _ _ _ _ _ => (gx_tup (Cn.blk c _ _ _ _ _) (gsx_cons (gx_name (Cn.blk c _ _ _ _ _) 9) (gsx_cons (gx_name (Cn.blk c _ _ _ _ _) 10) gsx_nil)))) (fun _ _ _ _ _ => tsx_nil) (fun _ _ _ _ _ => (ex_tup (ax_cons (ex_var 9) (ax_cons (ex_if (tx_cmp (op_eqM (Cn.blk c _ _ _ _ _)) (fun _ _ _ _ z => z) (ex_var 9) (ex_ix (Cn.blk c _ _ _ _ _) (ex_var 1) ex_int) rfl) (ex_call (Cn.blk c0 _ _ _ _ _) L.d66 (ax_cons (ex_var 10) (ax_cons (ex_var 7) (ax_cons (ex_var 2) ax_nil)))) (ex_var 10)) ax_nil)))) (sw_true rfl rfl rfl (by decide +kernel)) | exact sx_set c 8 (ex_lc c [("name", 9), ("inner", 10)] (ix_seqM c (ex_var 6)) (blkOk_by (N := N66) (sc := defScope s66) (by decide +kernel)) (fun _ _ _ _ _ => (gx_tup (Cn.blk c _ _ _ _ _) (gsx_cons (gx_name (Cn.blk c _ _ _ _ _) 9) (gsx_cons (gx_name (Cn.blk c _ _ _ _ _) 10) gsx_nil)))) (fun _ _ _ _ _ => tsx_nil) (fun _ _ _ _ _ => (ex_tup (ax_cons (ex_var 9) (ax_cons (ex_if (tx_cmp (op_eqM (Cn.blk c _ _ _ _ _)) (fun _ _ _ _ z => z) (ex_var 9) (ex_ix (Cn.blk c _ _ _ _ _) (ex_var 1) ex_int) rfl) (ex_call (Cn.blk c0 _ _ _ _ _) L.d66 (ax_cons (ex_var 10) (ax_cons (ex_var 7) (ax_cons (ex_var 2) ax_nil)))) (ex_var 10)) ax_nil))))))
      (sx_one (sx_ret (ex_tup (ax_cons (ex_var 3) (ax_cons (ex_var 4) (ax_cons (ex_var 5) (ax_cons (ex_callTy (call_tup2 c) (ax_cons (ex_var 8) ax_nil) (hm := G.n_tuple)) ax_nil)))))))))))
-- without_frame
abbrev N67 : List Str := ["tree", "page", "lost", "number", "address", "state", "frames", "rows", "name", "inner"]
theorem sc67 : FnScope N67 ["tree", "page", "lost"] (defScope s67) := ⟨rfl, rfl, rfl, by decide +kernel, rfl, by decide +kernel, by decide +kernel⟩
def b67 (call : Nat → MF) : MS := (sSeq (sAsg (gTupM 4 (gsCons (gSet 3) (gsCons (gSet 4) (gsCons (gSet 5) (gsCons (gSet 6) gsNil))))) (mVar 0)) (sSeq (sSet 7 (mLc (iSeq (mVar 6)) (gTupM 2 (gsCons (gSet 8) (gsCons (gSet 9) gsNil))) (tOrM (tV (mBin (dEq true) (mVar 3) (mVar 1))) (tV (mBin (dEq true) (mVar 8) (mVar 2)))) (mTup (aCons (mVar 8) (aCons (mCallN 3 (call 67) (aCons (mVar 9) (aCons (mVar 1) (aCons (mVar 2) aNil)))) aNil))) [8, 9])) (sRet (mTup (aCons (mVar 3) (aCons (mVar 4) (aCons (mVar 5) (aCons (mCall (bTup) (aCons (mVar 7) aNil)) aNil))))))))
theorem t67 {T : Tb} {n : Nat} {call : Nat → MF} (G : Gs T) (L : Lv T (6 * n) call) : DefAt T (6 * n + 6) ("without_frame" : Str) 3 (mDef 3 7 (b67 call)) :=
  G.f67.at 3 7 sc67 rfl rfl fun f cdv A outer s H E c => have c0 : Cn T (6 * n) _ := c.mono (Nat.le_add_right _ 5); have hj : 6 * n + 1 ≤ 6 * n + 5 := Nat.add_le_add_left (by decide) _; (sx_cons (sx_asg (ex_var 0) (gx_tup c (gsx_cons (gx_name c 3) (gsx_cons (gx_name c 4) (gsx_cons (gx_name c 5) (gsx_cons (gx_name c 6) gsx_nil))))))
      (sx_cons (by first | exact sx_setLc c [("name", 8), ("inner", 9)] 7 (ix_seqM c (ex_var 6)) (blkOk_by (N := N67) (sc := defScope s67) (by decide +kernel)) (fun _ _ _ _ _ => (gx_tup (Cn.blk c _ _ _ _ _) (gsx_cons (gx_name (Cn.blk c _ _ _ _ _) 8) (gsx_cons (gx_name (Cn.blk c _ _ _ _ _) 9) gsx_nil)))) (fun _ _ _ _ _ => (tsx_one (PW.pt (tx_or (tx_cmp (op_neM (Cn.blk c _ _ _ _ _)) (fun _ _ _ _ z => z) (ex_var 3) (ex_var 1) rfl) (tx_or1 (tx_cmp (op_neM (Cn.blk c _ _ _ _ _)) (fun _ _ _ _ z => z) (ex_var 8) (ex_var 2) rfl)))))) (fun _ _ _ _ _ => (ex_tup (ax_cons (ex_var 8) (ax_cons (ex_call (Cn.blk c0 _ _ _ _ _) L.d67 (ax_cons (ex_var 9) (ax_cons (ex_var 1) (ax_cons (ex_var 2) ax_nil)))) ax_nil)))) (sw_true rfl rfl rfl (by decide +kernel)) | exact sx_set c 7 (ex_lc c [("name", 8), ("inner", 9)] (ix_seqM c (ex_var 6)) (blkOk_by (N := N67) (sc := defScope s67) (by decide +kernel)) (fun _ _ _ _ _ => (gx_tup (Cn.blk c _ _ _ _ _) (gsx_cons (gx_name (Cn.blk c _ _ _ _ _) 8) (gsx_cons (gx_name (Cn.blk c _ _ _ _ _) 9) gsx_nil)))) (fun _ _ _ _ _ => (tsx_one (PW.pt (tx_or (tx_cmp (op_neM (Cn.blk c _ _ _ _ _)) (fun _ _ _ _ z => z) (ex_var 3) (ex_var 1) rfl) (tx_or1 (tx_cmp (op_neM (Cn.blk c _ _ _ _ _)) (fun _ _ _ _ z => z) (ex_var 8) (ex_var 2) rfl)))))) (fun _ _ _ _ _ => (ex_tup (ax_cons (ex_var 8) (ax_cons (ex_call (Cn.blk c0 _ _ _ _ _) L.d67 (ax_cons (ex_var 9) (ax_cons (ex_var 1) (ax_cons (ex_var 2) ax_nil)))) ax_nil))))))
      (sx_one (sx_ret (ex_tup (ax_cons (ex_var 3) (ax_cons (ex_var 4) (ax_cons (ex_var 5) (ax_cons (ex_callTy (call_tup2 c) (ax_cons (ex_var 7) ax_nil) (hm := G.n_tuple)) ax_nil)))))))))
-- seen_tree
abbrev N68 : List Str := ["tree", "_", "address", "state", "frames", "name", "inner"]
theorem sc68 : FnScope N68 ["tree"] (defScope s68) := ⟨rfl, rfl, rfl, by decide +kernel, rfl, by decide +kernel, by decide +kernel⟩
def b68 (call : Nat → MF) : MS := (sSeq (sAsg (gTupM 4 (gsCons (gSet 1) (gsCons (gSet 2) (gsCons (gSet 3) (gsCons (gSet 4) gsNil))))) (mVar 0)) (sRet (mTup (aCons (mVar 2) (aCons (mVar 3) (aCons (mCall (bTup) (aCons (mLc (iSeq (mVar 4)) (gTupM 2 (gsCons (gSet 5) (gsCons (gSet 6) gsNil))) tYesM (mTup (aCons (mVar 5) (aCons (mCallN 1 (call 68) (aCons (mVar 6) aNil)) aNil))) [5, 6]) aNil)) aNil))))))
theorem t68 {T : Tb} {n : Nat} {call : Nat → MF} (G : Gs T) (L : Lv T (6 * n) call) : DefAt T (6 * n + 6) ("seen_tree" : Str) 1 (mDef 1 6 (b68 call)) :=
  G.f68.at 1 6 sc68 rfl rfl fun f cdv A outer s H E c => have c0 : Cn T (6 * n) _ := c.mono (Nat.le_add_right _ 5); have hj : 6 * n + 1 ≤ 6 * n + 5 := Nat.add_le_add_left (by decide) _; (sx_cons (sx_asg (ex_var 0) (gx_tup c (gsx_cons (gx_name c 1) (gsx_cons (gx_name c 2) (gsx_cons (gx_name c 3) (gsx_cons (gx_name c 4) gsx_nil))))))
      (sx_one (sx_ret (ex_tup (ax_cons (ex_var 2) (ax_cons (ex_var 3) (ax_cons (ex_callTy (call_tup2 c) (ax_cons (ex_lc c [("name", 5), ("inner", 6)] (ix_seqM c (ex_var 4)) (blkOk_by (N := N68) (sc := defScope s68) (by decide +kernel)) (fun _ _ _ _ _ => (gx_tup (Cn.blk c _ _ _ _ _) (gsx_cons (gx_name (Cn.blk c _ _ _ _ _) 5) (gsx_cons (gx_name (Cn.blk c _ _ _ _ _) 6) gsx_nil)))) (fun _ _ _ _ _ => tsx_nil) (fun _ _ _ _ _ => (ex_tup (ax_cons (ex_var 5) (ax_cons (ex_call (Cn.blk c0 _ _ _ _ _) L.d68 (ax_cons (ex_var 6) ax_nil)) ax_nil))))) ax_nil) (hm := G.n_tuple)) ax_nil)))))))
-- numbers_of
abbrev N69 : List Str := ["tree", "numbers", "_", "inner"]
theorem sc69 : FnScope N69 ["tree"] (defScope s69) := ⟨rfl, rfl, rfl, by decide +kernel, rfl, by decide +kernel, by decide +kernel⟩
def b69 (call : Nat → MF) : MS := (sSeq (sSet 1 (mLst (aCons (mBin dIx (mVar 0) (mC (.int 0))) aNil))) (sSeq (sFor (gTupM 2 (gsCons (gSet 2) (gsCons (gSet 3) gsNil))) (iSeq (mBin dIx (mVar 0) (mC (.int 3)))) (sExpr (mBM fExtend (mVar 1) (aCons (mCallN 1 (call 69) (aCons (mVar 3) aNil)) aNil)))) (sRet (mVar 1))))
theorem t69 {T : Tb} {n : Nat} {call : Nat → MF} (G : Gs T) (L : Lv T (6 * n) call) : DefAt T (6 * n + 6) ("numbers_of" : Str) 1 (mDef 1 3 (b69 call)) :=
  G.f69.at 1 3 sc69 rfl rfl fun f cdv A outer s H E c => have c0 : Cn T (6 * n) _ := c.mono (Nat.le_add_right _ 5); have hj : 6 * n + 1 ≤ 6 * n + 5 := Nat.add_le_add_left (by decide) _; (sx_cons (sx_set c 1 (ex_lst (ax_cons (ex_ix c (ex_var 0) ex_int) ax_nil)))
      (sx_cons (sx_for c (ix_seqM c (ex_ix c (ex_var 0) ex_int)) (gx_tup c (gsx_cons (gx_name c 2) (gsx_cons (gx_name c 3) gsx_nil)))
      (sx_one (sx_expr (ex_bm c PySem.F.slot_list_extend PySem.F.type_list_extend mt_extendM (ex_var 1) (ax_cons (ex_call c0 L.d69 (ax_cons (ex_var 3) ax_nil)) ax_nil)))))
      (sx_one (sx_ret (ex_var 1)))))
-- places_of
abbrev N70 : List Str := ["tree", "path", "_", "address", "frames", "places", "name", "inner"]
theorem sc70 : FnScope N70 ["tree", "path"] (defScope s70) := ⟨rfl, rfl, rfl, by decide +kernel, rfl, by decide +kernel, by decide +kernel⟩
def b70 (call : Nat → MF) : MS := (sSeq (sAsg (gTupM 4 (gsCons (gSet 2) (gsCons (gSet 3) (gsCons (gSet 2) (gsCons (gSet 4) gsNil))))) (mVar 0)) (sSeq (sSet 5 (mLst (aCons (mTup (aCons (mVar 1) (aCons (mVar 3) aNil))) aNil))) (sSeq (sFor (gTupM 2 (gsCons (gSet 6) (gsCons (gSet 7) gsNil))) (iSeq (mVar 4)) (sExpr (mBM fExtend (mVar 5) (aCons (mCallN 2 (call 70) (aCons (mVar 7) (aCons (mBin dAdd (mVar 1) (mTup (aCons (mVar 6) aNil))) aNil))) aNil)))) (sRet (mVar 5)))))
theorem t70 {T : Tb} {n : Nat} {call : Nat → MF} (G : Gs T) (L : Lv T (6 * n) call) : DefAt T (6 * n + 6) ("places_of" : Str) 2 (mDef 2 6 (b70 call)) :=
  G.f70.at 2 6 sc70 rfl rfl fun f cdv A outer s H E c => have c0 : Cn T (6 * n) _ := c.mono (Nat.le_add_right _ 5); have hj : 6 * n + 1 ≤ 6 * n + 5 := Nat.add_le_add_left (by decide) _; (sx_cons (sx_asg (ex_var 0) (gx_tup c (gsx_cons (gx_name c 2) (gsx_cons (gx_name c 3) (gsx_cons (gx_name c 2) (gsx_cons (gx_name c 4) gsx_nil))))))
      (sx_cons (sx_set c 5 (ex_lst (ax_cons (ex_tup (ax_cons (ex_var 1) (ax_cons (ex_var 3) ax_nil))) ax_nil)))
      (sx_cons (sx_for c (ix_seqM c (ex_var 4)) (gx_tup c (gsx_cons (gx_name c 6) (gsx_cons (gx_name c 7) gsx_nil)))
      (sx_one (sx_expr (ex_bm c PySem.F.slot_list_extend PySem.F.type_list_extend mt_extendM (ex_var 5) (ax_cons (ex_call c0 L.d70 (ax_cons (ex_var 7) (ax_cons (ex_op (op_addM c) (fun _ _ _ _ z => z) (ex_var 1) (ex_tup (ax_cons (ex_var 6) ax_nil))) ax_nil))) ax_nil)))))
      (sx_one (sx_ret (ex_var 5))))))
-- Renewal.__init__
abbrev N71 : List Str := ["self", "site", "staying", "fresh"]
theorem sc71 : FnScope N71 ["self", "site", "staying", "fresh"] (defScope s71) := ⟨rfl, rfl, rfl, by decide +kernel, rfl, by decide +kernel, by decide +kernel⟩
def b71 (call : Nat → MF) : MS := (sSeq (sFldM naM 2 (mVar 0) (mVar 1)) (sSeq (sFldM naM 21 (mVar 0) (mVar 2)) (sSeq (sFldM naM 22 (mVar 0) (mDNew false)) (sSeq (sFldM naM 23 (mVar 0) (mDNew true)) (sFldM naM 24 (mVar 0) (mVar 3))))))
theorem t71 {T : Tb} {n : Nat} {call : Nat → MF} (G : Gs T) (L : Lv T (6 * n) call) : MakeAt T (6 * n + 6) ("Renewal" : Str) 2 4 (mDef 4 0 (b71 call)) :=
  G.f71.at 4 0 sc71 rfl rfl fun f cdv A outer s H E c => have c0 : Cn T (6 * n) _ := c.mono (Nat.le_add_right _ 5); have hj : 6 * n + 1 ≤ 6 * n + 5 := Nat.add_le_add_left (by decide) _; (sx_cons (sx_fld c G.fo 2 (ex_var 0) (ex_var 1) G.a__site)
      (sx_cons (sx_fld c G.fo 21 (ex_var 0) (ex_var 2) G.a__staying)
      (sx_cons (sx_fld c G.fo 22 (ex_var 0) ex_dnewK G.a__numbers)
      (sx_cons (sx_fld c G.fo 23 (ex_var 0) ex_dnewT G.a__added)
      (sx_one (sx_fld c G.fo 24 (ex_var 0) (ex_var 3) G.a_fresh))))))
-- Renewal.renewed
abbrev N72 : List Str := ["self", "tree", "number", "address", "state", "frames", "rows", "name", "inner"]
theorem sc72 : FnScope N72 ["self", "tree"] (defScope s72) := ⟨rfl, rfl, rfl, by decide +kernel, rfl, by decide +kernel, by decide +kernel⟩
def b72 (call : Nat → MF) : MS := (sSeq (sAsg (gTupM 4 (gsCons (gSet 2) (gsCons (gSet 3) (gsCons (gSet 4) (gsCons (gSet 5) gsNil))))) (mVar 1)) (sSeq (sSet 6 (mLc (iSeq (mVar 5)) (gTupM 2 (gsCons (gSet 7) (gsCons (gSet 8) gsNil))) tYesM (mTup (aCons (mVar 7) (aCons (mMethN 2 (fun _ => false) 2 (call 72) (mVar 0) (aCons (mVar 8) aNil)) aNil))) [7, 8])) (sSeq (sIf (tV (mBin (dIn false) (mVar 2) (mFld naM 21 (mVar 0)))) (sRet (mTup (aCons (mVar 2) (aCons (mVar 3) (aCons (mVar 4) (aCons (mCall (bTup) (aCons (mVar 6) aNil)) aNil)))))) sNil) (sRet (mTup (aCons (mMethN 2 (fun _ => false) 2 (call 73) (mVar 0) (aCons (mVar 2) aNil)) (aCons (mVar 3) (aCons (mVar 4) (aCons (mMethN 2 (fun _ => false) 4 (call 74) (mVar 0) (aCons (mVar 2) (aCons (mVar 3) (aCons (mCall (bDict) (aCons (mVar 6) aNil)) aNil)))) aNil)))))))))
theorem t72 {T : Tb} {n : Nat} {call : Nat → MF} (G : Gs T) (L : Lv T (6 * n) call) : MethAt T (6 * n + 6) 2 ("renewed" : Str) 2 (mDef 2 7 (b72 call)) :=
  G.f72.at 2 7 sc72 rfl rfl fun f cdv A outer s H E c => have c0 : Cn T (6 * n) _ := c.mono (Nat.le_add_right _ 5); have hj : 6 * n + 1 ≤ 6 * n + 5 := Nat.add_le_add_left (by decide) _; (sx_cons (sx_asg (ex_var 1) (gx_tup c (gsx_cons (gx_name c 2) (gsx_cons (gx_name c 3) (gsx_cons (gx_name c 4) (gsx_cons (gx_name c 5) gsx_nil))))))
      (sx_cons (by first | exact sx_setLc c [("name", 7), ("inner", 8)] 6 (ix_seqM c (ex_var 5)) (blkOk_by (N := N72) (sc := defScope s72) (by decide +kernel)) (fun _ _ _ _ _ => (gx_tup (Cn.blk c _ _ _ _ _) (gsx_cons (gx_name (Cn.blk c _ _ _ _ _) 7) (gsx_cons (gx_name (Cn.blk c _ _ _ _ _) 8) gsx_nil)))) (fun _ _ _ _ _ => tsx_nil) (fun _ _ _ _ _ => (ex_tup (ax_cons (ex_var 7) (ax_cons (ex_meth (Cn.blk c0 _ _ _ _ _) L.d72 _ (fun f h _ => G.m_renewed f h) (ex_var 0) (ax_cons (ex_var 8) ax_nil)) ax_nil)))) (sw_true rfl rfl rfl (by decide +kernel)) | exact sx_set c 6 (ex_lc c [("name", 7), ("inner", 8)] (ix_seqM c (ex_var 5)) (blkOk_by (N := N72) (sc := defScope s72) (by decide +kernel)) (fun _ _ _ _ _ => (gx_tup (Cn.blk c _ _ _ _ _) (gsx_cons (gx_name (Cn.blk c _ _ _ _ _) 7) (gsx_cons (gx_name (Cn.blk c _ _ _ _ _) 8) gsx_nil)))) (fun _ _ _ _ _ => tsx_nil) (fun _ _ _ _ _ => (ex_tup (ax_cons (ex_var 7) (ax_cons (ex_meth (Cn.blk c0 _ _ _ _ _) L.d72 _ (fun f h _ => G.m_renewed f h) (ex_var 0) (ax_cons (ex_var 8) ax_nil)) ax_nil))))))
      (sx_cons (sx_if (tx_cmp (op_inM c) (fun _ _ _ _ z => z) (ex_var 2) (ex_fld c G.fo 21 (ex_var 0) G.a__staying) rfl) (sx_one (sx_ret (ex_tup (ax_cons (ex_var 2) (ax_cons (ex_var 3) (ax_cons (ex_var 4) (ax_cons (ex_callTy (call_tup2 c) (ax_cons (ex_var 6) ax_nil) (hm := G.n_tuple)) ax_nil))))))) sx_nil)
      (sx_one (sx_ret (ex_tup (ax_cons (ex_meth c0 L.d73 _ (fun f h _ => G.m__new_number f h) (ex_var 0) (ax_cons (ex_var 2) ax_nil)) (ax_cons (ex_var 3) (ax_cons (ex_var 4) (ax_cons (ex_meth c0 L.d74 _ (fun f h _ => G.m__all_frames f h) (ex_var 0) (ax_cons (ex_var 2) (ax_cons (ex_var 3) (ax_cons (ex_callTy (call_dictM c) (ax_cons (ex_var 6) ax_nil) (hm := G.n_dict)) ax_nil)))) ax_nil))))))))))
-- Renewal._new_number
abbrev N73 : List Str := ["self", "number"]
theorem sc73 : FnScope N73 ["self", "number"] (defScope s73) := ⟨rfl, rfl, rfl, by decide +kernel, rfl, by decide +kernel, by decide +kernel⟩
def b73 (call : Nat → MF) : MS := (sSeq (sIf (tV (mBin (dHas true) (mVar 1) (mFld naM 22 (mVar 0)))) (sSeq (sDput (mFld naM 24 (mVar 0)) (mFld naM 22 (mVar 0)) (mVar 1)) (sFldAugM naM 24 dAddI (mVar 0) (mC (.int 1)))) sNil) (sRet (mBin dGet (mFld naM 22 (mVar 0)) (mVar 1))))
theorem t73 {T : Tb} {n : Nat} {call : Nat → MF} (G : Gs T) (L : Lv T (6 * n) call) : MethAt T (6 * n + 6) 2 ("_new_number" : Str) 2 (mDef 2 0 (b73 call)) :=
  G.f73.at 2 0 sc73 rfl rfl fun f cdv A outer s H E c => have c0 : Cn T (6 * n) _ := c.mono (Nat.le_add_right _ 5); have hj : 6 * n + 1 ≤ 6 * n + 5 := Nat.add_le_add_left (by decide) _; (sx_cons (sx_if (tx_dnotin c (ex_var 1) (ex_fld c G.fo 22 (ex_var 0) G.a__numbers)) (sx_cons (sx_dput c (ex_fld c G.fo 22 (ex_var 0) G.a__numbers) (ex_var 1) (ex_fld c G.fo 24 (ex_var 0) G.a_fresh))
      (sx_one (sx_fldaug c G.fo 24 (ex_var 0) ex_int in_addM G.a_fresh))) sx_nil)
      (sx_one (sx_ret (ex_dget c (ex_fld c G.fo 22 (ex_var 0) G.a__numbers) (ex_var 1)))))
-- Renewal._all_frames
abbrev N74 : List Str := ["self", "number", "address", "left", "rows", "name", "page"]
theorem sc74 : FnScope N74 ["self", "number", "address", "left"] (defScope s74) := ⟨rfl, rfl, rfl, by decide +kernel, rfl, by decide +kernel, by decide +kernel⟩
def b74 (call : Nat → MF) : MS := (sSeq (sSet 4 (mLst aNil)) (sSeq (sFor (gTupM 2 (gsCons (gSet 5) (gsCons (gSet 6) gsNil))) (iSeq (mMethN 1 (fun _ => false) 2 (call 44) (mFld naM 2 (mVar 0)) (aCons (mVar 2) aNil))) (sIf (tV (mBin (dHas false) (mVar 5) (mVar 3))) (sExpr (mBM fAppend (mVar 4) (aCons (mTup (aCons (mVar 5) (aCons (mBin dGet (mVar 3) (mVar 5)) aNil))) aNil))) (sExpr (mBM fAppend (mVar 4) (aCons (mTup (aCons (mVar 5) (aCons (mMethN 2 (fun _ => false) 4 (call 75) (mVar 0) (aCons (mVar 1) (aCons (mVar 5) (aCons (mVar 6) aNil)))) aNil))) aNil))))) (sRet (mCall (bTup) (aCons (mVar 4) aNil)))))
theorem t74 {T : Tb} {n : Nat} {call : Nat → MF} (G : Gs T) (L : Lv T (6 * n) call) : MethAt T (6 * n + 6) 2 ("_all_frames" : Str) 4 (mDef 4 3 (b74 call)) :=
  G.f74.at 4 3 sc74 rfl rfl fun f cdv A outer s H E c => have c0 : Cn T (6 * n) _ := c.mono (Nat.le_add_right _ 5); have hj : 6 * n + 1 ≤ 6 * n + 5 := Nat.add_le_add_left (by decide) _; (sx_cons (sx_set c 4 (ex_lst ax_nil))
      (sx_cons (sx_for c (ix_seqM c (ex_meth c0 L.d44 _ (fun f h _ => G.m_frames_of f h) (ex_fld c G.fo 2 (ex_var 0) G.a__site) (ax_cons (ex_var 2) ax_nil))) (gx_tup c (gsx_cons (gx_name c 5) (gsx_cons (gx_name c 6) gsx_nil)))
      (sx_one (sx_if (tx_din c (ex_var 5) (ex_var 3)) (sx_one (sx_expr (ex_bm c PySem.F.slot_list_append PySem.F.type_list_append mt_appendM (ex_var 4) (ax_cons (ex_tup (ax_cons (ex_var 5) (ax_cons (ex_dget c (ex_var 3) (ex_var 5)) ax_nil))) ax_nil)))) (sx_one (sx_expr (ex_bm c PySem.F.slot_list_append PySem.F.type_list_append mt_appendM (ex_var 4) (ax_cons (ex_tup (ax_cons (ex_var 5) (ax_cons (ex_meth c0 L.d75 _ (fun f h _ => G.m__added_tree f h) (ex_var 0) (ax_cons (ex_var 1) (ax_cons (ex_var 5) (ax_cons (ex_var 6) ax_nil)))) ax_nil))) ax_nil)))))))
      (sx_one (sx_ret (ex_callTy (call_tup2 c) (ax_cons (ex_var 4) ax_nil) (hm := G.n_tuple))))))
-- Renewal._added_tree
abbrev N75 : List Str := ["self", "number", "name", "page", "tree", "fresh"]
theorem sc75 : FnScope N75 ["self", "number", "name", "page"] (defScope s75) := ⟨rfl, rfl, rfl, by decide +kernel, rfl, by decide +kernel, by decide +kernel⟩
def b75 (call : Nat → MF) : MS := (sSeq (sIf (tV (mHasT true (aCons (mVar 1) (aCons (mVar 2) aNil)) (mFld naM 23 (mVar 0)))) (sSeq (sAsg (gTupM 2 (gsCons (gSet 4) (gsCons (gSet 5) gsNil))) (mCallN 3 (call 64) (aCons (mFld naM 2 (mVar 0)) (aCons (mVar 3) (aCons (mFld naM 24 (mVar 0)) aNil))))) (sSeq (sDputT (mVar 4) (mFld naM 23 (mVar 0)) (aCons (mVar 1) (aCons (mVar 2) aNil))) (sFldM naM 24 (mVar 0) (mVar 5)))) sNil) (sRet (mGetT (mFld naM 23 (mVar 0)) (aCons (mVar 1) (aCons (mVar 2) aNil)))))
theorem t75 {T : Tb} {n : Nat} {call : Nat → MF} (G : Gs T) (L : Lv T (6 * n) call) : MethAt T (6 * n + 6) 2 ("_added_tree" : Str) 4 (mDef 4 2 (b75 call)) :=
  G.f75.at 4 2 sc75 rfl rfl fun f cdv A outer s H E c => have c0 : Cn T (6 * n) _ := c.mono (Nat.le_add_right _ 5); have hj : 6 * n + 1 ≤ 6 * n + 5 := Nat.add_le_add_left (by decide) _; (sx_cons (sx_if (tx_notinT c (ax_cons (ex_var 1) (ax_cons (ex_var 2) ax_nil)) (ex_fld c G.fo 23 (ex_var 0) G.a__added)) (sx_cons (sx_asg (ex_call c0 L.d64 (ax_cons (ex_fld c G.fo 2 (ex_var 0) G.a__site) (ax_cons (ex_var 3) (ax_cons (ex_fld c G.fo 24 (ex_var 0) G.a_fresh) ax_nil)))) (gx_tup c (gsx_cons (gx_name c 4) (gsx_cons (gx_name c 5) gsx_nil))))
      (sx_cons (sx_dputT c (ex_fld c G.fo 23 (ex_var 0) G.a__added) (ax_cons (ex_var 1) (ax_cons (ex_var 2) ax_nil)) (ex_var 4))
      (sx_one (sx_fld c G.fo 24 (ex_var 0) (ex_var 5) G.a_fresh)))) sx_nil)
      (sx_one (sx_ret (ex_getT c (ex_fld c G.fo 23 (ex_var 0) G.a__added) (ax_cons (ex_var 1) (ax_cons (ex_var 2) ax_nil))))))
-- first_record
abbrev N76 : List Str := ["site", "tree", "fresh"]
theorem sc76 : FnScope N76 ["site"] (defScope s76) := ⟨rfl, rfl, rfl, by decide +kernel, rfl, by decide +kernel, by decide +kernel⟩
def b76 (call : Nat → MF) : MS := (sSeq (sAsg (gTupM 2 (gsCons (gSet 1) (gsCons (gSet 2) gsNil))) (mCallN 3 (call 64) (aCons (mVar 0) (aCons (mProp 1 (call 35) (mVar 0)) (aCons (mC (.int 0)) aNil))))) (sRet (mMakeN 3 5 (call 77) (aCons (mVar 0) (aCons (mTup (aCons (mVar 1) aNil)) (aCons (mC (.int 0)) (aCons (mVar 2) aNil)))))))
theorem t76 {T : Tb} {n : Nat} {call : Nat → MF} (G : Gs T) (L : Lv T (6 * n) call) : DefAt T (6 * n + 6) ("first_record" : Str) 1 (mDef 1 2 (b76 call)) :=
  G.f76.at 1 2 sc76 rfl rfl fun f cdv A outer s H E c => have c0 : Cn T (6 * n) _ := c.mono (Nat.le_add_right _ 5); have hj : 6 * n + 1 ≤ 6 * n + 5 := Nat.add_le_add_left (by decide) _; (sx_cons (sx_asg (ex_call c0 L.d64 (ax_cons (ex_var 0) (ax_cons (ex_prop c hj L.d35 (ex_var 0)) (ax_cons ex_int ax_nil)))) (gx_tup c (gsx_cons (gx_name c 1) (gsx_cons (gx_name c 2) gsx_nil))))
      (sx_one (sx_ret (ex_make c hj L.d77 (ax_cons (ex_var 0) (ax_cons (ex_tup (ax_cons (ex_var 1) ax_nil)) (ax_cons ex_int (ax_cons (ex_var 2) ax_nil))))))))
-- Record.__init__
abbrev N77 : List Str := ["self", "site", "trees", "current", "fresh"]
theorem sc77 : FnScope N77 ["self", "site", "trees", "current", "fresh"] (defScope s77) := ⟨rfl, rfl, rfl, by decide +kernel, rfl, by decide +kernel, by decide +kernel⟩
def b77 (call : Nat → MF) : MS := (sSeq (sFldM naM 2 (mVar 0) (mVar 1)) (sSeq (sFldM naM 25 (mVar 0) (mVar 2)) (sSeq (sFldM naM 26 (mVar 0) (mVar 3)) (sFldM naM 6 (mVar 0) (mVar 4)))))
theorem t77 {T : Tb} {n : Nat} {call : Nat → MF} (G : Gs T) (L : Lv T (6 * n) call) : MakeAt T (6 * n + 6) ("Record" : Str) 3 5 (mDef 5 0 (b77 call)) :=
  G.f77.at 5 0 sc77 rfl rfl fun f cdv A outer s H E c => have c0 : Cn T (6 * n) _ := c.mono (Nat.le_add_right _ 5); have hj : 6 * n + 1 ≤ 6 * n + 5 := Nat.add_le_add_left (by decide) _; (sx_cons (sx_fld c G.fo 2 (ex_var 0) (ex_var 1) G.a__site)
      (sx_cons (sx_fld c G.fo 25 (ex_var 0) (ex_var 2) G.a_trees)
      (sx_cons (sx_fld c G.fo 26 (ex_var 0) (ex_var 3) G.a_current)
      (sx_one (sx_fld c G.fo 6 (ex_var 0) (ex_var 4) G.a__fresh)))))
-- Record.tree
abbrev N78 : List Str := ["self"]
theorem sc78 : FnScope N78 ["self"] (defScope s78) := ⟨rfl, rfl, rfl, by decide +kernel, rfl, by decide +kernel, by decide +kernel⟩
def b78 (call : Nat → MF) : MS := (sRet (mBin dIx (mFld naM 25 (mVar 0)) (mFld naM 26 (mVar 0))))
theorem t78 {T : Tb} {n : Nat} {call : Nat → MF} (G : Gs T) (L : Lv T (6 * n) call) : MethAt T (6 * n + 6) 3 ("tree" : Str) 1 (mDef 1 0 (b78 call)) :=
  G.f78.at 1 0 sc78 rfl rfl fun f cdv A outer s H E c => have c0 : Cn T (6 * n) _ := c.mono (Nat.le_add_right _ 5); have hj : 6 * n + 1 ≤ 6 * n + 5 := Nat.add_le_add_left (by decide) _; (sx_one (sx_ret (ex_ix c (ex_fld c G.fo 25 (ex_var 0) G.a_trees) (ex_fld c G.fo 26 (ex_var 0) G.a_current))))
-- Record.allows
abbrev N80 : List Str := ["self", "deed", "word", "path", "tree"]
theorem sc80 : FnScope N80 ["self", "deed"] (defScope s80) := ⟨rfl, rfl, rfl, by decide +kernel, rfl, by decide +kernel, by decide +kernel⟩
def b80 (call : Nat → MF) : MS := (sSeq (sSet 2 (mBin dIx (mVar 1) (mC (.int 0)))) (sSeq (sIf (tV (mBin (dEq false) (mCall (bLen) (aCons (mVar 1) aNil)) (mC (.int 1)))) (sRet (mMethN 3 (fun _ => false) 2 (call 83) (mVar 0) (aCons (mVar 2) aNil))) sNil) (sSeq (sSet 3 (mBin dIx (mVar 1) (mC (.int 1)))) (sSeq (sSet 4 (mCallN 2 (call 65) (aCons (mMethN 3 (fun _ => false) 1 (call 78) (mVar 0) aNil) (aCons (mVar 3) aNil)))) (sSeq (sIf (tV (mUn (dIsN false) (mVar 4))) (sRet (mC (.bl false))) sNil) (sSeq (sIf (tV (mBin (dEq false) (mVar 2) (mC (.str [103, 111])))) (sRet (mAnd (mBin (dIn false) (mBin dIx (mVar 1) (mC (.int 2))) (mMethN 1 (fun _ => false) 2 (call 45) (mFld naM 2 (mVar 0)) (aCons (mBin dIx (mVar 4) (mC (.int 1))) aNil))) (mMethN 3 (fun _ => false) 3 (call 82) (mVar 0) (aCons (mVar 3) (aCons (mBin dIx (mVar 1) (mC (.int 2))) aNil))))) sNil) (sSeq (sIf (tV (mBin (dEq false) (mVar 2) (mC (.str [112, 117, 115, 104])))) (sRet (mBin (dIn false) (mBin dIx (mVar 4) (mC (.int 1))) (mProp 1 (call 37) (mFld naM 2 (mVar 0))))) sNil) (sRet (mProp 1 (call 38) (mFld naM 2 (mVar 0)))))))))))
theorem t80 {T : Tb} {n : Nat} {call : Nat → MF} (G : Gs T) (L : Lv T (6 * n) call) : MethAt T (6 * n + 6) 3 ("allows" : Str) 2 (mDef 2 3 (b80 call)) :=
  G.f80.at 2 3 sc80 rfl rfl fun f cdv A outer s H E c => have c0 : Cn T (6 * n) _ := c.mono (Nat.le_add_right _ 5); have hj : 6 * n + 1 ≤ 6 * n + 5 := Nat.add_le_add_left (by decide) _; (sx_cons (sx_set c 2 (ex_ix c (ex_var 1) ex_int))
      (sx_cons (sx_if (tx_cmp (op_eqM c) (fun _ _ _ _ z => z) (ex_callB (call_len4 c) (ax_cons (ex_var 1) ax_nil) (hm := G.n_len)) ex_int rfl) (sx_one (sx_ret (ex_meth c0 L.d83 _ (fun f h _ => G.m__allows_word f h) (ex_var 0) (ax_cons (ex_var 2) ax_nil)))) sx_nil)
      (sx_cons (sx_set c 3 (ex_ix c (ex_var 1) ex_int))
      (sx_cons (sx_set c 4 (ex_call c0 L.d65 (ax_cons (ex_meth0 c0 L.d78 _ (fun f h _ => G.m_tree f h) (ex_var 0)) (ax_cons (ex_var 3) ax_nil))))
      (sx_cons (sx_if (tx_isN (ex_var 4)) (sx_one (sx_ret ex_bl)) sx_nil)
      (sx_cons (sx_if (tx_cmp (op_eqM c) (fun _ _ _ _ z => z) (ex_var 2) (ex_str [103, 111]) rfl) (sx_one (sx_ret (ex_and (ex_cmp (op_inM c) (fun _ _ _ _ z => z) (ex_ix c (ex_var 1) ex_int) (ex_meth c0 L.d45 _ (fun f h _ => G.m_links_of f h) (ex_fld c G.fo 2 (ex_var 0) G.a__site) (ax_cons (ex_ix c (ex_var 4) ex_int) ax_nil)) rfl) (ex_one (ex_meth c0 L.d82 _ (fun f h _ => G.m__fits f h) (ex_var 0) (ax_cons (ex_var 3) (ax_cons (ex_ix c (ex_var 1) ex_int) ax_nil))))))) sx_nil)
      (sx_cons (sx_if (tx_cmp (op_eqM c) (fun _ _ _ _ z => z) (ex_var 2) (ex_str [112, 117, 115, 104]) rfl) (sx_one (sx_ret (ex_cmp (op_inM c) (fun _ _ _ _ z => z) (ex_ix c (ex_var 4) ex_int) (ex_prop c hj L.d37 (ex_fld c G.fo 2 (ex_var 0) G.a__site)) rfl))) sx_nil)
      (sx_one (sx_ret (ex_prop c hj L.d38 (ex_fld c G.fo 2 (ex_var 0) G.a__site)))))))))))
-- Record.after
abbrev N81 : List Str := ["self", "deed", "word", "part", "fresh", "number", "address", "state", "frames"]
theorem sc81 : FnScope N81 ["self", "deed"] (defScope s81) := ⟨rfl, rfl, rfl, by decide +kernel, rfl, by decide +kernel, by decide +kernel⟩
def b81 (call : Nat → MF) : MS := (sSeq (sSet 2 (mBin dIx (mVar 1) (mC (.int 0)))) (sSeq (sIf (tV (mBin (dEq false) (mVar 2) (mC (.str [103, 111])))) (sSeq (sAsg (gTupM 2 (gsCons (gSet 3) (gsCons (gSet 4) gsNil))) (mCallN 3 (call 64) (aCons (mFld naM 2 (mVar 0)) (aCons (mBin dIx (mVar 1) (mC (.int 2))) (aCons (mFld naM 6 (mVar 0)) aNil))))) (sRet (mMethN 3 (fun _ => false) 4 (call 84) (mVar 0) (aCons (mBin dIx (mVar 1) (mC (.int 1))) (aCons (mVar 3) (aCons (mVar 4) aNil)))))) sNil) (sSeq (sIf (tV (mBin (dEq false) (mVar 2) (mC (.str [112, 117, 115, 104])))) (sSeq (sAsg (gTupM 4 (gsCons (gSet 5) (gsCons (gSet 6) (gsCons (gSet 7) (gsCons (gSet 8) gsNil))))) (mCallN 2 (call 65) (aCons (mMethN 3 (fun _ => false) 1 (call 78) (mVar 0) aNil) (aCons (mBin dIx (mVar 1) (mC (.int 1))) aNil)))) (sRet (mMethN 3 (fun _ => false) 4 (call 84) (mVar 0) (aCons (mBin dIx (mVar 1) (mC (.int 1))) (aCons (mTup (aCons (mVar 5) (aCons (mVar 6) (aCons (mBin dSub (mC (.int 1)) (mVar 7)) (aCons (mVar 8) aNil))))) (aCons (mFld naM 6 (mVar 0)) aNil)))))) sNil) (sSeq (sIf (tV (mBin (dEq false) (mVar 2) (mC (.str [98, 97, 99, 107])))) (sRet (mMakeN 3 5 (call 77) (aCons (mFld naM 2 (mVar 0)) (aCons (mFld naM 25 (mVar 0)) (aCons (mBin dSub (mFld naM 26 (mVar 0)) (mC (.int 1))) (aCons (mFld naM 6 (mVar 0)) aNil)))))) sNil) (sSeq (sIf (tV (mBin (dEq false) (mVar 2) (mC (.str [110, 101, 120, 116])))) (sRet (mMakeN 3 5 (call 77) (aCons (mFld naM 2 (mVar 0)) (aCons (mFld naM 25 (mVar 0)) (aCons (mBin dAdd (mFld naM 26 (mVar 0)) (mC (.int 1))) (aCons (mFld naM 6 (mVar 0)) aNil)))))) sNil) (sSeq (sIf (tV (mBin (dEq false) (mVar 2) (mC (.str [100, 114, 111, 112])))) (sRet (mMethN 3 (fun _ => false) 2 (call 85) (mVar 0) (aCons (mBin dIx (mVar 1) (mC (.int 1))) aNil))) sNil) (sSeq (sIf (tV (mBin (dEq false) (mVar 2) (mC (.str [99, 108, 101, 97, 114])))) (sRet (mMethN 3 (fun _ => false) 2 (call 86) (mVar 0) (aCons (mCallN 1 (call 69) (aCons (mMethN 3 (fun _ => false) 1 (call 78) (mVar 0) aNil) aNil)) aNil))) sNil) (sRet (mMethN 3 (fun _ => false) 2 (call 86) (mVar 0) (aCons (mLst aNil) aNil))))))))))
theorem t81 {T : Tb} {n : Nat} {call : Nat → MF} (G : Gs T) (L : Lv T (6 * n) call) : MethAt T (6 * n + 6) 3 ("after" : Str) 2 (mDef 2 7 (b81 call)) :=
  G.f81.at 2 7 sc81 rfl rfl fun f cdv A outer s H E c => have c0 : Cn T (6 * n) _ := c.mono (Nat.le_add_right _ 5); have hj : 6 * n + 1 ≤ 6 * n + 5 := Nat.add_le_add_left (by decide) _; (sx_cons (sx_set c 2 (ex_ix c (ex_var 1) ex_int))
      (sx_cons (sx_if (tx_cmp (op_eqM c) (fun _ _ _ _ z => z) (ex_var 2) (ex_str [103, 111]) rfl) (sx_cons (sx_asg (ex_call c0 L.d64 (ax_cons (ex_fld c G.fo 2 (ex_var 0) G.a__site) (ax_cons (ex_ix c (ex_var 1) ex_int) (ax_cons (ex_fld c G.fo 6 (ex_var 0) G.a__fresh) ax_nil)))) (gx_tup c (gsx_cons (gx_name c 3) (gsx_cons (gx_name c 4) gsx_nil))))
      (sx_one (sx_ret (ex_meth c0 L.d84 _ (fun f h _ => G.m__with_step f h) (ex_var 0) (ax_cons (ex_ix c (ex_var 1) ex_int) (ax_cons (ex_var 3) (ax_cons (ex_var 4) ax_nil))))))) sx_nil)
      (sx_cons (sx_if (tx_cmp (op_eqM c) (fun _ _ _ _ z => z) (ex_var 2) (ex_str [112, 117, 115, 104]) rfl) (sx_cons (sx_asg (ex_call c0 L.d65 (ax_cons (ex_meth0 c0 L.d78 _ (fun f h _ => G.m_tree f h) (ex_var 0)) (ax_cons (ex_ix c (ex_var 1) ex_int) ax_nil))) (gx_tup c (gsx_cons (gx_name c 5) (gsx_cons (gx_name c 6) (gsx_cons (gx_name c 7) (gsx_cons (gx_name c 8) gsx_nil))))))
      (sx_one (sx_ret (ex_meth c0 L.d84 _ (fun f h _ => G.m__with_step f h) (ex_var 0) (ax_cons (ex_ix c (ex_var 1) ex_int) (ax_cons (ex_tup (ax_cons (ex_var 5) (ax_cons (ex_var 6) (ax_cons (ex_op op_subM (fun _ _ _ _ z => z) ex_int (ex_var 7)) (ax_cons (ex_var 8) ax_nil))))) (ax_cons (ex_fld c G.fo 6 (ex_var 0) G.a__fresh) ax_nil))))))) sx_nil)
      (sx_cons (sx_if (tx_cmp (op_eqM c) (fun _ _ _ _ z => z) (ex_var 2) (ex_str [98, 97, 99, 107]) rfl) (sx_one (sx_ret (ex_make c hj L.d77 (ax_cons (ex_fld c G.fo 2 (ex_var 0) G.a__site) (ax_cons (ex_fld c G.fo 25 (ex_var 0) G.a_trees) (ax_cons (ex_op op_subM (fun _ _ _ _ z => z) (ex_fld c G.fo 26 (ex_var 0) G.a_current) ex_int) (ax_cons (ex_fld c G.fo 6 (ex_var 0) G.a__fresh) ax_nil))))))) sx_nil)
      (sx_cons (sx_if (tx_cmp (op_eqM c) (fun _ _ _ _ z => z) (ex_var 2) (ex_str [110, 101, 120, 116]) rfl) (sx_one (sx_ret (ex_make c hj L.d77 (ax_cons (ex_fld c G.fo 2 (ex_var 0) G.a__site) (ax_cons (ex_fld c G.fo 25 (ex_var 0) G.a_trees) (ax_cons (ex_op (op_addM c) (fun _ _ _ _ z => z) (ex_fld c G.fo 26 (ex_var 0) G.a_current) ex_int) (ax_cons (ex_fld c G.fo 6 (ex_var 0) G.a__fresh) ax_nil))))))) sx_nil)
      (sx_cons (sx_if (tx_cmp (op_eqM c) (fun _ _ _ _ z => z) (ex_var 2) (ex_str [100, 114, 111, 112]) rfl) (sx_one (sx_ret (ex_meth c0 L.d85 _ (fun f h _ => G.m__after_drop f h) (ex_var 0) (ax_cons (ex_ix c (ex_var 1) ex_int) ax_nil)))) sx_nil)
      (sx_cons (sx_if (tx_cmp (op_eqM c) (fun _ _ _ _ z => z) (ex_var 2) (ex_str [99, 108, 101, 97, 114]) rfl) (sx_one (sx_ret (ex_meth c0 L.d86 _ (fun f h _ => G.m__thrown_away f h) (ex_var 0) (ax_cons (ex_call c0 L.d69 (ax_cons (ex_meth0 c0 L.d78 _ (fun f h _ => G.m_tree f h) (ex_var 0)) ax_nil)) ax_nil)))) sx_nil)
      (sx_one (sx_ret (ex_meth c0 L.d86 _ (fun f h _ => G.m__thrown_away f h) (ex_var 0) (ax_cons (ex_lst ax_nil) ax_nil)))))))))))
-- Record._fits
abbrev N82 : List Str := ["self", "path", "address"]
theorem sc82 : FnScope N82 ["self", "path", "address"] (defScope s82) := ⟨rfl, rfl, rfl, by decide +kernel, rfl, by decide +kernel, by decide +kernel⟩
def b82 (call : Nat → MF) : MS := (sRet (mBin dLe (mBin dAdd (mCall (bLen) (aCons (mVar 1) aNil)) (mMethN 1 (fun _ => false) 2 (call 46) (mFld naM 2 (mVar 0)) (aCons (mVar 2) aNil))) (mC (.int 2))))
theorem t82 {T : Tb} {n : Nat} {call : Nat → MF} (G : Gs T) (L : Lv T (6 * n) call) : MethAt T (6 * n + 6) 3 ("_fits" : Str) 3 (mDef 3 0 (b82 call)) :=
  G.f82.at 3 0 sc82 rfl rfl fun f cdv A outer s H E c => have c0 : Cn T (6 * n) _ := c.mono (Nat.le_add_right _ 5); have hj : 6 * n + 1 ≤ 6 * n + 5 := Nat.add_le_add_left (by decide) _; (sx_one (sx_ret (ex_cmp op_leM (fun _ _ _ _ z => z) (ex_op (op_addM c) (fun _ _ _ _ z => z) (ex_callB (call_len4 c) (ax_cons (ex_var 1) ax_nil) (hm := G.n_len)) (ex_meth c0 L.d46 _ (fun f h _ => G.m_depth_of f h) (ex_fld c G.fo 2 (ex_var 0) G.a__site) (ax_cons (ex_var 2) ax_nil))) ex_int rfl)))
-- Record._allows_word
abbrev N83 : List Str := ["self", "word"]
theorem sc83 : FnScope N83 ["self", "word"] (defScope s83) := ⟨rfl, rfl, rfl, by decide +kernel, rfl, by decide +kernel, by decide +kernel⟩
def b83 (call : Nat → MF) : MS := (sSeq (sIf (tV (mBin (dEq false) (mVar 1) (mC (.str [98, 97, 99, 107])))) (sRet (mBin (dCmpI fun i j => PySem.W.Z.ltB j i) (mFld naM 26 (mVar 0)) (mC (.int 0)))) sNil) (sSeq (sIf (tV (mBin (dEq false) (mVar 1) (mC (.str [110, 101, 120, 116])))) (sRet (mBin dLt (mBin dAdd (mFld naM 26 (mVar 0)) (mC (.int 1))) (mCall (bLen) (aCons (mFld naM 25 (mVar 0)) aNil)))) sNil) (sSeq (sIf (tV (mBin (dEq false) (mVar 1) (mC (.str [99, 108, 101, 97, 114])))) (sRet (mProp 1 (call 39) (mFld naM 2 (mVar 0)))) sNil) (sRet (mProp 1 (call 40) (mFld naM 2 (mVar 0)))))))
theorem t83 {T : Tb} {n : Nat} {call : Nat → MF} (G : Gs T) (L : Lv T (6 * n) call) : MethAt T (6 * n + 6) 3 ("_allows_word" : Str) 2 (mDef 2 0 (b83 call)) :=
  G.f83.at 2 0 sc83 rfl rfl fun f cdv A outer s H E c => have c0 : Cn T (6 * n) _ := c.mono (Nat.le_add_right _ 5); have hj : 6 * n + 1 ≤ 6 * n + 5 := Nat.add_le_add_left (by decide) _; (sx_cons (sx_if (tx_cmp (op_eqM c) (fun _ _ _ _ z => z) (ex_var 1) (ex_str [98, 97, 99, 107]) rfl) (sx_one (sx_ret (ex_cmp op_gtM (fun _ _ _ _ z => z) (ex_fld c G.fo 26 (ex_var 0) G.a_current) ex_int rfl))) sx_nil)
      (sx_cons (sx_if (tx_cmp (op_eqM c) (fun _ _ _ _ z => z) (ex_var 1) (ex_str [110, 101, 120, 116]) rfl) (sx_one (sx_ret (ex_cmp op_ltM (fun _ _ _ _ z => z) (ex_op (op_addM c) (fun _ _ _ _ z => z) (ex_fld c G.fo 26 (ex_var 0) G.a_current) ex_int) (ex_callB (call_len4 c) (ax_cons (ex_fld c G.fo 25 (ex_var 0) G.a_trees) ax_nil) (hm := G.n_len)) rfl))) sx_nil)
      (sx_cons (sx_if (tx_cmp (op_eqM c) (fun _ _ _ _ z => z) (ex_var 1) (ex_str [99, 108, 101, 97, 114]) rfl) (sx_one (sx_ret (ex_prop c hj L.d39 (ex_fld c G.fo 2 (ex_var 0) G.a__site)))) sx_nil)
      (sx_one (sx_ret (ex_prop c hj L.d40 (ex_fld c G.fo 2 (ex_var 0) G.a__site)))))))
-- Record._with_step
abbrev N84 : List Str := ["self", "path", "part", "fresh", "trees"]
theorem sc84 : FnScope N84 ["self", "path", "part", "fresh"] (defScope s84) := ⟨rfl, rfl, rfl, by decide +kernel, rfl, by decide +kernel, by decide +kernel⟩
def b84 (call : Nat → MF) : MS := (sSeq (sSet 4 (mBin dAdd (mSlice (mFld naM 25 (mVar 0)) none (some (mBin dAdd (mFld naM 26 (mVar 0)) (mC (.int 1))))) (mTup (aCons (mCallN 3 (call 66) (aCons (mMethN 3 (fun _ => false) 1 (call 78) (mVar 0) aNil) (aCons (mVar 1) (aCons (mVar 2) aNil)))) aNil)))) (sSeq (sIf (tV (mBin (dCmpI fun i j => PySem.W.Z.ltB j i) (mCall (bLen) (aCons (mVar 4) aNil)) (mProp 1 (call 36) (mFld naM 2 (mVar 0))))) (sSet 4 (mSlice (mVar 4) (some (mC (.int 1))) none)) sNil) (sRet (mMakeN 3 5 (call 77) (aCons (mFld naM 2 (mVar 0)) (aCons (mVar 4) (aCons (mBin dSub (mCall (bLen) (aCons (mVar 4) aNil)) (mC (.int 1))) (aCons (mVar 3) aNil))))))))
theorem t84 {T : Tb} {n : Nat} {call : Nat → MF} (G : Gs T) (L : Lv T (6 * n) call) : MethAt T (6 * n + 6) 3 ("_with_step" : Str) 4 (mDef 4 1 (b84 call)) :=
  G.f84.at 4 1 sc84 rfl rfl fun f cdv A outer s H E c => have c0 : Cn T (6 * n) _ := c.mono (Nat.le_add_right _ 5); have hj : 6 * n + 1 ≤ 6 * n + 5 := Nat.add_le_add_left (by decide) _; (sx_cons (sx_set c 4 (ex_op (op_addM c) (fun _ _ _ _ z => z) (ex_slice c (ex_fld c G.fo 25 (ex_var 0) G.a_trees) ox_none (ox_some (ex_op (op_addM c) (fun _ _ _ _ z => z) (ex_fld c G.fo 26 (ex_var 0) G.a_current) ex_int))) (ex_tup (ax_cons (ex_call c0 L.d66 (ax_cons (ex_meth0 c0 L.d78 _ (fun f h _ => G.m_tree f h) (ex_var 0)) (ax_cons (ex_var 1) (ax_cons (ex_var 2) ax_nil)))) ax_nil))))
      (sx_cons (sx_if (tx_cmp op_gtM (fun _ _ _ _ z => z) (ex_callB (call_len4 c) (ax_cons (ex_var 4) ax_nil) (hm := G.n_len)) (ex_prop c hj L.d36 (ex_fld c G.fo 2 (ex_var 0) G.a__site)) rfl) (sx_one (sx_set c 4 (ex_slice c (ex_var 4) (ox_some ex_int) ox_none))) sx_nil)
      (sx_one (sx_ret (ex_make c hj L.d77 (ax_cons (ex_fld c G.fo 2 (ex_var 0) G.a__site) (ax_cons (ex_var 4) (ax_cons (ex_op op_subM (fun _ _ _ _ z => z) (ex_callB (call_len4 c) (ax_cons (ex_var 4) ax_nil) (hm := G.n_len)) ex_int) (ax_cons (ex_var 3) ax_nil)))))))))
-- Record._after_drop
abbrev N85 : List Str := ["self", "path", "page", "rows", "current", "step", "tree", "left"]
theorem sc85 : FnScope N85 ["self", "path"] (defScope s85) := ⟨rfl, rfl, rfl, by decide +kernel, rfl, by decide +kernel, by decide +kernel⟩
def b85 (call : Nat → MF) : MS := (sSeq (sSet 2 (mCallN 2 (call 65) (aCons (mMethN 3 (fun _ => false) 1 (call 78) (mVar 0) aNil) (aCons (mSlice (mVar 1) none (some (mUn dNeg (mC (.int 1))))) aNil)))) (sSeq (sSet 3 (mLst aNil)) (sSeq (sSet 4 (mC (.int 0))) (sSeq (sFor (gTupM 2 (gsCons (gSet 5) (gsCons (gSet 6) gsNil))) (iEnumM (aCons (mFld naM 25 (mVar 0)) aNil)) (sSeq (sSet 7 (mCallN 3 (call 67) (aCons (mVar 6) (aCons (mBin dIx (mVar 2) (mC (.int 0))) (aCons (mBin dIx (mVar 1) (mUn dNeg (mC (.int 1)))) aNil))))) (sSeq (sIf (tOrM (tV (mBin (dEq false) (mVar 3) (mLst aNil))) (tV (mBin (dEq true) (mBin dIx (mVar 3) (mUn dNeg (mC (.int 1)))) (mVar 7)))) (sExpr (mBM fAppend (mVar 3) (aCons (mVar 7) aNil))) sNil) (sIf (tV (mBin (dEq false) (mVar 5) (mFld naM 26 (mVar 0)))) (sSet 4 (mBin dSub (mCall (bLen) (aCons (mVar 3) aNil)) (mC (.int 1)))) sNil)))) (sRet (mMakeN 3 5 (call 77) (aCons (mFld naM 2 (mVar 0)) (aCons (mCall (bTup) (aCons (mVar 3) aNil)) (aCons (mVar 4) (aCons (mFld naM 6 (mVar 0)) aNil))))))))))
theorem t85 {T : Tb} {n : Nat} {call : Nat → MF} (G : Gs T) (L : Lv T (6 * n) call) : MethAt T (6 * n + 6) 3 ("_after_drop" : Str) 2 (mDef 2 6 (b85 call)) :=
  G.f85.at 2 6 sc85 rfl rfl fun f cdv A outer s H E c => have c0 : Cn T (6 * n) _ := c.mono (Nat.le_add_right _ 5); have hj : 6 * n + 1 ≤ 6 * n + 5 := Nat.add_le_add_left (by decide) _; (sx_cons (sx_set c 2 (ex_call c0 L.d65 (ax_cons (ex_meth0 c0 L.d78 _ (fun f h _ => G.m_tree f h) (ex_var 0)) (ax_cons (ex_slice c (ex_var 1) ox_none (ox_some (ex_neg ex_int))) ax_nil))))
      (sx_cons (sx_set c 3 (ex_lst ax_nil))
      (sx_cons (sx_set c 4 ex_int)
      (sx_cons (sx_for c (ix_enumM c (ax_cons (ex_fld c G.fo 25 (ex_var 0) G.a_trees) ax_nil) (hm := G.n_enumerate)) (gx_tup c (gsx_cons (gx_name c 5) (gsx_cons (gx_name c 6) gsx_nil)))
      (sx_cons (sx_set c 7 (ex_call c0 L.d67 (ax_cons (ex_var 6) (ax_cons (ex_ix c (ex_var 2) ex_int) (ax_cons (ex_ix c (ex_var 1) (ex_neg ex_int)) ax_nil)))))
      (sx_cons (sx_if (PW.pt (tx_or (tx_cmp (op_eqM c) (fun _ _ _ _ z => z) (ex_var 3) (ex_lst ax_nil) rfl) (tx_or1 (tx_cmp (op_neM c) (fun _ _ _ _ z => z) (ex_ix c (ex_var 3) (ex_neg ex_int)) (ex_var 7) rfl)))) (sx_one (sx_expr (ex_bm c PySem.F.slot_list_append PySem.F.type_list_append mt_appendM (ex_var 3) (ax_cons (ex_var 7) ax_nil)))) sx_nil)
      (sx_one (sx_if (tx_cmp (op_eqM c) (fun _ _ _ _ z => z) (ex_var 5) (ex_fld c G.fo 26 (ex_var 0) G.a_current) rfl) (sx_one (sx_set c 4 (ex_op op_subM (fun _ _ _ _ z => z) (ex_callB (call_len4 c) (ax_cons (ex_var 3) ax_nil) (hm := G.n_len)) ex_int))) sx_nil)))))
      (sx_one (sx_ret (ex_make c hj L.d77 (ax_cons (ex_fld c G.fo 2 (ex_var 0) G.a__site) (ax_cons (ex_callTy (call_tup2 c) (ax_cons (ex_var 3) ax_nil) (hm := G.n_tuple)) (ax_cons (ex_var 4) (ax_cons (ex_fld c G.fo 6 (ex_var 0) G.a__fresh) ax_nil)))))))))))
-- Record._thrown_away
abbrev N86 : List Str := ["self", "staying", "renewal", "trees", "tree"]
theorem sc86 : FnScope N86 ["self", "staying"] (defScope s86) := ⟨rfl, rfl, rfl, by decide +kernel, rfl, by decide +kernel, by decide +kernel⟩
def b86 (call : Nat → MF) : MS := (sSeq (sSet 2 (mMakeN 2 4 (call 71) (aCons (mFld naM 2 (mVar 0)) (aCons (mVar 1) (aCons (mFld naM 6 (mVar 0)) aNil))))) (sSeq (sSet 3 (mCall (bTup) (aCons (mLc (iSeq (mFld naM 25 (mVar 0))) (gSet 4) tYesM (mMethN 2 (fun _ => false) 2 (call 72) (mVar 2) (aCons (mVar 4) aNil)) [4]) aNil))) (sRet (mMakeN 3 5 (call 77) (aCons (mFld naM 2 (mVar 0)) (aCons (mVar 3) (aCons (mFld naM 26 (mVar 0)) (aCons (mFld naM 24 (mVar 2)) aNil))))))))
theorem t86 {T : Tb} {n : Nat} {call : Nat → MF} (G : Gs T) (L : Lv T (6 * n) call) : MethAt T (6 * n + 6) 3 ("_thrown_away" : Str) 2 (mDef 2 3 (b86 call)) :=
  G.f86.at 2 3 sc86 rfl rfl fun f cdv A outer s H E c => have c0 : Cn T (6 * n) _ := c.mono (Nat.le_add_right _ 5); have hj : 6 * n + 1 ≤ 6 * n + 5 := Nat.add_le_add_left (by decide) _; (sx_cons (sx_set c 2 (ex_make c hj L.d71 (ax_cons (ex_fld c G.fo 2 (ex_var 0) G.a__site) (ax_cons (ex_var 1) (ax_cons (ex_fld c G.fo 6 (ex_var 0) G.a__fresh) ax_nil)))))
      (sx_cons (sx_set c 3 (ex_callTy (call_tup2 c) (ax_cons (ex_lc c [("tree", 4)] (ix_seqM c (ex_fld c G.fo 25 (ex_var 0) G.a_trees)) (blkOk_by (N := N86) (sc := defScope s86) (by decide +kernel)) (fun _ _ _ _ _ => (gx_name (Cn.blk c _ _ _ _ _) 4)) (fun _ _ _ _ _ => tsx_nil) (fun _ _ _ _ _ => (ex_meth (Cn.blk c0 _ _ _ _ _) L.d72 _ (fun f h _ => G.m_renewed f h) (ex_var 2) (ax_cons (ex_var 4) ax_nil)))) ax_nil) (hm := G.n_tuple)))
      (sx_one (sx_ret (ex_make c hj L.d77 (ax_cons (ex_fld c G.fo 2 (ex_var 0) G.a__site) (ax_cons (ex_var 3) (ax_cons (ex_fld c G.fo 26 (ex_var 0) G.a_current) (ax_cons (ex_fld c G.fo 24 (ex_var 2) G.a_fresh) ax_nil)))))))))
-- _place_order
abbrev N87 : List Str := ["place", "path", "_"]
theorem sc87 : FnScope N87 ["place"] (defScope s87) := ⟨rfl, rfl, rfl, by decide +kernel, rfl, by decide +kernel, by decide +kernel⟩
def b87 (call : Nat → MF) : MS := (sSeq (sAsg (gTupM 2 (gsCons (gSet 1) (gsCons (gSet 2) gsNil))) (mVar 0)) (sRet (mTup (aCons (mCall (bLen) (aCons (mVar 1) aNil)) (aCons (mVar 1) aNil)))))
theorem t87 {T : Tb} {n : Nat} {call : Nat → MF} (G : Gs T) (L : Lv T (6 * n) call) : DefAt T (6 * n + 6) ("_place_order" : Str) 1 (mDef 1 2 (b87 call)) :=
  G.f87.at 1 2 sc87 rfl rfl fun f cdv A outer s H E c => have c0 : Cn T (6 * n) _ := c.mono (Nat.le_add_right _ 5); have hj : 6 * n + 1 ≤ 6 * n + 5 := Nat.add_le_add_left (by decide) _; (sx_cons (sx_asg (ex_var 0) (gx_tup c (gsx_cons (gx_name c 1) (gsx_cons (gx_name c 2) gsx_nil))))
      (sx_one (sx_ret (ex_tup (ax_cons (ex_callB (call_len4 c) (ax_cons (ex_var 1) ax_nil) (hm := G.n_len)) (ax_cons (ex_var 1) ax_nil))))))
-- is_deed
abbrev N88 : List Str := ["site", "value", "word"]
theorem sc88 : FnScope N88 ["site", "value"] (defScope s88) := ⟨rfl, rfl, rfl, by decide +kernel, rfl, by decide +kernel, by decide +kernel⟩
def b88 (call : Nat → MF) : MS := (sSeq (sExpr (mCallN 1 (call 59) (aCons (mVar 0) aNil))) (sSeq (sIf (tOrM (tNotM (tTru (mCall (bIsi 5) (aCons (mVar 1) (aCons (mC (.cn 3)) aNil))))) (tOrM (tNotM (tV (mChain dLe dLe (mC (.int 1)) (mCall (bLen) (aCons (mVar 1) aNil)) (mC (.int 3))))) (tNotM (tTru (mCall (bIsi 5) (aCons (mBin dIx (mVar 1) (mC (.int 0))) (aCons (mC (.cn 1)) aNil))))))) (sRet (mC (.bl false))) sNil) (sSeq (sSet 2 (mBin dIx (mVar 1) (mC (.int 0)))) (sSeq (sIf (tV (mBin (dEq false) (mCall (bLen) (aCons (mVar 1) aNil)) (mC (.int 1)))) (sRet (mBin (dIn false) (mVar 2) (mC (.tup [(.str [98, 97, 99, 107]), (.str [110, 101, 120, 116]), (.str [99, 108, 101, 97, 114]), (.str [114, 101, 111, 112, 101, 110])])))) sNil) (sSeq (sIf (tNotM (tTru (mCallN 2 (call 61) (aCons (mVar 0) (aCons (mBin dIx (mVar 1) (mC (.int 1))) aNil))))) (sRet (mC (.bl false))) sNil) (sSeq (sIf (tV (mBin (dEq false) (mCall (bLen) (aCons (mVar 1) aNil)) (mC (.int 3)))) (sRet (mAnd (mBin (dEq false) (mVar 2) (mC (.str [103, 111]))) (mCallN 2 (call 62) (aCons (mVar 0) (aCons (mBin dIx (mVar 1) (mC (.int 2))) aNil))))) sNil) (sRet (mOr (mBin (dEq false) (mVar 2) (mC (.str [112, 117, 115, 104]))) (mAnd (mBin (dEq false) (mVar 2) (mC (.str [100, 114, 111, 112]))) (mBin (dEq true) (mBin dIx (mVar 1) (mC (.int 1))) (mTup aNil)))))))))))
theorem t88 {T : Tb} {n : Nat} {call : Nat → MF} (G : Gs T) (L : Lv T (6 * n) call) : DefAt T (6 * n + 6) ("is_deed" : Str) 2 (mDef 2 1 (b88 call)) :=
  G.f88.at 2 1 sc88 rfl rfl fun f cdv A outer s H E c => have c0 : Cn T (6 * n) _ := c.mono (Nat.le_add_right _ 5); have hj : 6 * n + 1 ≤ 6 * n + 5 := Nat.add_le_add_left (by decide) _; (sx_cons (sx_expr (ex_call c0 L.d59 (ax_cons (ex_var 0) ax_nil)))
      (sx_cons (sx_if (PW.pt (tx_or (tx_not (tx_tru c (ex_callB (call_isiM c G.kt G.nc1 G.nc0) (ax_cons (ex_var 1) (ax_cons (ex_ty 3 (hm := G.n_tuple)) ax_nil)) (hm := G.n_isinstance)))) (tx_or (tx_not (tx_chain op_leM op_leM ex_int (ex_callB (call_len4 c) (ax_cons (ex_var 1) ax_nil) (hm := G.n_len)) ex_int)) (tx_or1 (tx_not (tx_tru c (ex_callB (call_isiM c G.kt G.nc1 G.nc0) (ax_cons (ex_ix c (ex_var 1) ex_int) (ax_cons (ex_ty 1 (hm := G.n_str)) ax_nil)) (hm := G.n_isinstance)))))))) (sx_one (sx_ret ex_bl)) sx_nil)
      (sx_cons (sx_set c 2 (ex_ix c (ex_var 1) ex_int))
      (sx_cons (sx_if (tx_cmp (op_eqM c) (fun _ _ _ _ z => z) (ex_callB (call_len4 c) (ax_cons (ex_var 1) ax_nil) (hm := G.n_len)) ex_int rfl) (sx_one (sx_ret (ex_cmp (op_inM c) (fun _ _ _ _ z => z) (ex_var 2) (ex_gcon c G.g_PLAIN_WORDS) rfl))) sx_nil)
      (sx_cons (sx_if (tx_not (tx_tru c (ex_call c0 L.d61 (ax_cons (ex_var 0) (ax_cons (ex_ix c (ex_var 1) ex_int) ax_nil))))) (sx_one (sx_ret ex_bl)) sx_nil)
      (sx_cons (sx_if (tx_cmp (op_eqM c) (fun _ _ _ _ z => z) (ex_callB (call_len4 c) (ax_cons (ex_var 1) ax_nil) (hm := G.n_len)) ex_int rfl) (sx_one (sx_ret (ex_and (ex_cmp (op_eqM c) (fun _ _ _ _ z => z) (ex_var 2) (ex_str [103, 111]) rfl) (ex_one (ex_call c0 L.d62 (ax_cons (ex_var 0) (ax_cons (ex_ix c (ex_var 1) ex_int) ax_nil))))))) sx_nil)
      (sx_one (sx_ret (ex_or (ex_cmp (op_eqM c) (fun _ _ _ _ z => z) (ex_var 2) (ex_str [112, 117, 115, 104]) rfl) (ex_one (ex_and (ex_cmp (op_eqM c) (fun _ _ _ _ z => z) (ex_var 2) (ex_str [100, 114, 111, 112]) rfl) (ex_one (ex_cmp (op_neM c) (fun _ _ _ _ z => z) (ex_ix c (ex_var 1) ex_int) (ex_tup ax_nil) rfl)))))))))))))
-- Machine.__init__
abbrev N89 : List Str := ["self", "site", "cares"]
theorem sc89 : FnScope N89 ["self", "site", "cares"] (defScope s89) := ⟨rfl, rfl, rfl, by decide +kernel, rfl, by decide +kernel, by decide +kernel⟩
def b89 (call : Nat → MF) : MS := (sSeq (sExpr (mCallN 1 (call 59) (aCons (mVar 1) aNil))) (sSeq (sFldM naM 3 (mVar 0) (mCallN 1 (call 60) (aCons (mVar 2) aNil))) (sSeq (sFldM naM 2 (mVar 0) (mVar 1)) (sSeq (sFldM naM 27 (mVar 0) (mLst aNil)) (sSeq (sFldM naM 28 (mVar 0) (mC .non)) (sSeq (sFldM naM 0 (mVar 0) (mCallN 1 (call 76) (aCons (mVar 1) aNil))) (sFldM naM 1 (mVar 0) (mCallN 2 (call 7) (aCons (mVar 1) (aCons (mFld naM 3 (mVar 0)) aNil))))))))))
theorem t89 {T : Tb} {n : Nat} {call : Nat → MF} (G : Gs T) (L : Lv T (6 * n) call) {fd : FuncData} {kws : List (Str × V)} (F : FunQ T.K dq89 fd kws) : FnOk T.P T.w T.K T.mg T.base CX0 (6 * n + 6) (dq89.ad.at T.K) fd ["self", "site", "cares"] (spM T 3 (mDef 3 0 (b89 call))) :=
  def_okQ 3 0 F sc89 rfl rfl fun f cdv A outer s H E c => have c0 : Cn T (6 * n) _ := c.mono (Nat.le_add_right _ 5); have hj : 6 * n + 1 ≤ 6 * n + 5 := Nat.add_le_add_left (by decide) _; (sx_cons (sx_expr (ex_call c0 L.d59 (ax_cons (ex_var 1) ax_nil)))
      (sx_cons (sx_fld c G.fo 3 (ex_var 0) (ex_call c0 L.d60 (ax_cons (ex_var 2) ax_nil)) G.a__cares)
      (sx_cons (sx_fld c G.fo 2 (ex_var 0) (ex_var 1) G.a__site)
      (sx_cons (sx_fld c G.fo 27 (ex_var 0) (ex_lst ax_nil) G.a__past)
      (sx_cons (sx_fld c G.fo 28 (ex_var 0) ex_non G.a__failure)
      (sx_cons (sx_fld c G.fo 0 (ex_var 0) (ex_call c0 L.d76 (ax_cons (ex_var 1) ax_nil)) G.a_record)
      (sx_one (sx_fld c G.fo 1 (ex_var 0) (ex_call c0 L.d7 (ax_cons (ex_var 1) (ax_cons (ex_fld c G.fo 3 (ex_var 0) G.a__cares) ax_nil))) G.a_browser))))))))
-- Machine.site
abbrev N90 : List Str := ["self"]
theorem sc90 : FnScope N90 ["self"] (defScope s90) := ⟨rfl, rfl, rfl, by decide +kernel, rfl, by decide +kernel, by decide +kernel⟩
def b90 (call : Nat → MF) : MS := (sRet (mFld naM 2 (mVar 0)))
theorem t90 {T : Tb} {n : Nat} {call : Nat → MF} (G : Gs T) (L : Lv T (6 * n) call) : PropAt T (6 * n + 6) 4 ("site" : Str) (mDef 1 0 (b90 call)) :=
  G.f90.at 0 sc90 rfl rfl fun f cdv A outer s H E c => have c0 : Cn T (6 * n) _ := c.mono (Nat.le_add_right _ 5); have hj : 6 * n + 1 ≤ 6 * n + 5 := Nat.add_le_add_left (by decide) _; (sx_one (sx_ret (ex_fld c G.fo 2 (ex_var 0) G.a__site)))
-- Machine.cares
abbrev N91 : List Str := ["self"]
theorem sc91 : FnScope N91 ["self"] (defScope s91) := ⟨rfl, rfl, rfl, by decide +kernel, rfl, by decide +kernel, by decide +kernel⟩
def b91 (call : Nat → MF) : MS := (sRet (mFld naM 3 (mVar 0)))
theorem t91 {T : Tb} {n : Nat} {call : Nat → MF} (G : Gs T) (L : Lv T (6 * n) call) : PropAt T (6 * n + 6) 4 ("cares" : Str) (mDef 1 0 (b91 call)) :=
  G.f91.at 0 sc91 rfl rfl fun f cdv A outer s H E c => have c0 : Cn T (6 * n) _ := c.mono (Nat.le_add_right _ 5); have hj : 6 * n + 1 ≤ 6 * n + 5 := Nat.add_le_add_left (by decide) _; (sx_one (sx_ret (ex_fld c G.fo 3 (ex_var 0) G.a__cares)))
-- Machine.failure
abbrev N92 : List Str := ["self"]
theorem sc92 : FnScope N92 ["self"] (defScope s92) := ⟨rfl, rfl, rfl, by decide +kernel, rfl, by decide +kernel, by decide +kernel⟩
def b92 (call : Nat → MF) : MS := (sRet (mFld naM 28 (mVar 0)))
theorem t92 {T : Tb} {n : Nat} {call : Nat → MF} (G : Gs T) (L : Lv T (6 * n) call) : PropAt T (6 * n + 6) 4 ("failure" : Str) (mDef 1 0 (b92 call)) :=
  G.f92.at 0 sc92 rfl rfl fun f cdv A outer s H E c => have c0 : Cn T (6 * n) _ := c.mono (Nat.le_add_right _ 5); have hj : 6 * n + 1 ≤ 6 * n + 5 := Nat.add_le_add_left (by decide) _; (sx_one (sx_ret (ex_fld c G.fo 28 (ex_var 0) G.a__failure)))
-- Machine.past
abbrev N93 : List Str := ["self"]
theorem sc93 : FnScope N93 ["self"] (defScope s93) := ⟨rfl, rfl, rfl, by decide +kernel, rfl, by decide +kernel, by decide +kernel⟩
def b93 (call : Nat → MF) : MS := (sExpr (mCallN 1 (call 0) (aCons (mC (.int 0)) aNil)))
theorem t93 {T : Tb} {n : Nat} {call : Nat → MF} (G : Gs T) (L : Lv T (6 * n) call) : PropAt T (6 * n + 6) 4 ("past" : Str) (mDef 1 0 (b93 call)) :=
  G.f93.at 0 sc93 rfl rfl fun f cdv A outer s H E c => have c0 : Cn T (6 * n) _ := c.mono (Nat.le_add_right _ 5); have hj : 6 * n + 1 ≤ 6 * n + 5 := Nat.add_le_add_left (by decide) _; (sx_one (sx_expr (ex_call c0 L.d0 (ax_cons ex_int ax_nil))))
-- Machine.here
abbrev N94 : List Str := ["self"]
theorem sc94 : FnScope N94 ["self"] (defScope s94) := ⟨rfl, rfl, rfl, by decide +kernel, rfl, by decide +kernel, by decide +kernel⟩
def b94 (call : Nat → MF) : MS := (sRet (mFld naM 26 (mFld naM 0 (mVar 0))))
theorem t94 {T : Tb} {n : Nat} {call : Nat → MF} (G : Gs T) (L : Lv T (6 * n) call) : PropAt T (6 * n + 6) 4 ("here" : Str) (mDef 1 0 (b94 call)) :=
  G.f94.at 0 sc94 rfl rfl fun f cdv A outer s H E c => have c0 : Cn T (6 * n) _ := c.mono (Nat.le_add_right _ 5); have hj : 6 * n + 1 ≤ 6 * n + 5 := Nat.add_le_add_left (by decide) _; (sx_one (sx_ret (ex_fld c G.fo 26 (ex_fld c G.fo 0 (ex_var 0) G.a_record) G.a_current)))
-- Machine.__len__
abbrev N95 : List Str := ["self"]
theorem sc95 : FnScope N95 ["self"] (defScope s95) := ⟨rfl, rfl, rfl, by decide +kernel, rfl, by decide +kernel, by decide +kernel⟩
def b95 (call : Nat → MF) : MS := (sRet (mCall (bLen) (aCons (mFld naM 25 (mFld naM 0 (mVar 0))) aNil)))
theorem t95 {T : Tb} {n : Nat} {call : Nat → MF} (G : Gs T) (L : Lv T (6 * n) call) : MethAt T (6 * n + 6) 4 ("__len__" : Str) 1 (mDef 1 0 (b95 call)) :=
  G.f95.at 1 0 sc95 rfl rfl fun f cdv A outer s H E c => have c0 : Cn T (6 * n) _ := c.mono (Nat.le_add_right _ 5); have hj : 6 * n + 1 ≤ 6 * n + 5 := Nat.add_le_add_left (by decide) _; (sx_one (sx_ret (ex_callB (call_len4 c) (ax_cons (ex_fld c G.fo 25 (ex_fld c G.fo 0 (ex_var 0) G.a_record) G.a_trees) ax_nil) (hm := G.n_len))))
-- Machine.__getitem__
abbrev N96 : List Str := ["self", "at", "trees"]
theorem sc96 : FnScope N96 ["self", "at"] (defScope s96) := ⟨rfl, rfl, rfl, by decide +kernel, rfl, by decide +kernel, by decide +kernel⟩
def b96 (call : Nat → MF) : MS := (sSeq (sSet 2 (mFld naM 25 (mFld naM 0 (mVar 0)))) (sSeq (sIf (tOrM (tNotM (tTru (mCall (bIsi 5) (aCons (mVar 1) (aCons (mC (.cn 0)) aNil))))) (tOrM (tTru (mCall (bIsi 5) (aCons (mVar 1) (aCons (mC (.cn 2)) aNil)))) (tNotM (tV (mChain dLe dLt (mC (.int 0)) (mVar 1) (mCall (bLen) (aCons (mVar 2) aNil))))))) sNever sNil) (sRet (mCallN 1 (call 68) (aCons (mBin dIx (mVar 2) (mVar 1)) aNil)))))
theorem t96 {T : Tb} {n : Nat} {call : Nat → MF} (G : Gs T) (L : Lv T (6 * n) call) : MethAt T (6 * n + 6) 4 ("__getitem__" : Str) 2 (mDef 2 1 (b96 call)) :=
  G.f96.at 2 1 sc96 rfl rfl fun f cdv A outer s H E c => have c0 : Cn T (6 * n) _ := c.mono (Nat.le_add_right _ 5); have hj : 6 * n + 1 ≤ 6 * n + 5 := Nat.add_le_add_left (by decide) _; (sx_cons (sx_set c 2 (ex_fld c G.fo 25 (ex_fld c G.fo 0 (ex_var 0) G.a_record) G.a_trees))
      (sx_cons (sx_if (PW.pt (tx_or (tx_not (tx_tru c (ex_callB (call_isiM c G.kt G.nc1 G.nc0) (ax_cons (ex_var 1) (ax_cons (ex_ty 0 (hm := G.n_int)) ax_nil)) (hm := G.n_isinstance)))) (tx_or (tx_tru c (ex_callB (call_isiM c G.kt G.nc1 G.nc0) (ax_cons (ex_var 1) (ax_cons (ex_ty 2 (hm := G.n_bool)) ax_nil)) (hm := G.n_isinstance))) (tx_or1 (tx_not (tx_chain op_leM op_ltM ex_int (ex_var 1) (ex_callB (call_len4 c) (ax_cons (ex_var 2) ax_nil) (hm := G.n_len)))))))) (sx_one sx_never) sx_nil)
      (sx_one (sx_ret (ex_call c0 L.d68 (ax_cons (ex_ix c (ex_var 2) (ex_var 1)) ax_nil))))))
-- Machine.__iter__
abbrev N97 : List Str := ["self"]
theorem sc97 : FnScope N97 ["self"] (defScope s97) := ⟨rfl, rfl, rfl, by decide +kernel, rfl, by decide +kernel, by decide +kernel⟩
def b97 (call : Nat → MF) : MS := sNever
theorem t97 {T : Tb} {n : Nat} {call : Nat → MF} (G : Gs T) (L : Lv T (6 * n) call) : MethAt T (6 * n + 6) 4 ("__iter__" : Str) 1 (mDef 1 0 (b97 call)) :=
  G.f97.at 1 0 sc97 rfl rfl fun f cdv A outer s H E c => have c0 : Cn T (6 * n) _ := c.mono (Nat.le_add_right _ 5); have hj : 6 * n + 1 ≤ 6 * n + 5 := Nat.add_le_add_left (by decide) _; (sx_one sx_never)
-- Machine.do
abbrev N98 : List Str := ["self", "deed"]
theorem sc98 : FnScope N98 ["self", "deed"] (defScope s98) := ⟨rfl, rfl, rfl, by decide +kernel, rfl, by decide +kernel, by decide +kernel⟩
def b98 (call : Nat → MF) : MS := (sSeq (sIf (tNotM (tTru (mMethN 4 (fun _ => false) 2 (call 99) (mVar 0) (aCons (mVar 1) aNil)))) sNever sNil) (sSeq (sFldM naM 0 (mVar 0) (mAlt (mMethN 0 (fun _ => false) 2 (call 9) (mFld naM 0 (mVar 0)) (aCons (mVar 1) aNil)) (mMethN 3 (fun _ => false) 2 (call 81) (mFld naM 0 (mVar 0)) (aCons (mVar 1) aNil)))) (sSeq (sFldM naM 1 (mVar 0) (mAlt (mMethN 0 (fun _ => false) 2 (call 9) (mFld naM 1 (mVar 0)) (aCons (mVar 1) aNil)) (mMethN 3 (fun _ => false) 2 (call 81) (mFld naM 1 (mVar 0)) (aCons (mVar 1) aNil)))) (sSeq (sExpr (mBM fAppend (mFld naM 27 (mVar 0)) (aCons (mVar 1) aNil))) (sSeq (sFldM naM 28 (mVar 0) (mCallN 2 (call 104) (aCons (mFld naM 0 (mVar 0)) (aCons (mFld naM 1 (mVar 0)) aNil)))) (sRet (mFld naM 28 (mVar 0))))))))
theorem t98 {T : Tb} {n : Nat} {call : Nat → MF} (G : Gs T) (L : Lv T (6 * n) call) : MethAt T (6 * n + 6) 4 ("do" : Str) 2 (mDef 2 0 (b98 call)) :=
  G.f98.at 2 0 sc98 rfl rfl fun f cdv A outer s H E c => have c0 : Cn T (6 * n) _ := c.mono (Nat.le_add_right _ 5); have hj : 6 * n + 1 ≤ 6 * n + 5 := Nat.add_le_add_left (by decide) _; (sx_cons (sx_if (tx_not (tx_tru c (ex_meth c0 L.d99 _ (fun f h _ => G.m_can f h) (ex_var 0) (ax_cons (ex_var 1) ax_nil)))) (sx_one sx_never) sx_nil)
      (sx_cons (sx_fld c G.fo 0 (ex_var 0) (ex_alt (ex_meth c0 L.d9 _ (fun f h _ => G.m_after f h) (ex_fld c G.fo 0 (ex_var 0) G.a_record) (ax_cons (ex_var 1) ax_nil)) (ex_meth c0 L.d81 _ (fun f h _ => G.m_after f h) (ex_fld c G.fo 0 (ex_var 0) G.a_record) (ax_cons (ex_var 1) ax_nil))) G.a_record)
      (sx_cons (sx_fld c G.fo 1 (ex_var 0) (ex_alt (ex_meth c0 L.d9 _ (fun f h _ => G.m_after f h) (ex_fld c G.fo 1 (ex_var 0) G.a_browser) (ax_cons (ex_var 1) ax_nil)) (ex_meth c0 L.d81 _ (fun f h _ => G.m_after f h) (ex_fld c G.fo 1 (ex_var 0) G.a_browser) (ax_cons (ex_var 1) ax_nil))) G.a_browser)
      (sx_cons (sx_expr (ex_bm c PySem.F.slot_list_append PySem.F.type_list_append mt_appendM (ex_fld c G.fo 27 (ex_var 0) G.a__past) (ax_cons (ex_var 1) ax_nil)))
      (sx_cons (sx_fld c G.fo 28 (ex_var 0) (ex_call c0 L.d104 (ax_cons (ex_fld c G.fo 0 (ex_var 0) G.a_record) (ax_cons (ex_fld c G.fo 1 (ex_var 0) G.a_browser) ax_nil))) G.a__failure)
      (sx_one (sx_ret (ex_fld c G.fo 28 (ex_var 0) G.a__failure))))))))
-- Machine.can
abbrev N99 : List Str := ["self", "deed"]
theorem sc99 : FnScope N99 ["self", "deed"] (defScope s99) := ⟨rfl, rfl, rfl, by decide +kernel, rfl, by decide +kernel, by decide +kernel⟩
def b99 (call : Nat → MF) : MS := (sSeq (sIf (tNotM (tTru (mCallN 2 (call 88) (aCons (mFld naM 2 (mVar 0)) (aCons (mVar 1) aNil))))) sNever sNil) (sRet (mAnd (mUn (dIsN false) (mFld naM 28 (mVar 0))) (mMethN 3 (fun _ => false) 2 (call 80) (mFld naM 0 (mVar 0)) (aCons (mVar 1) aNil)))))
theorem t99 {T : Tb} {n : Nat} {call : Nat → MF} (G : Gs T) (L : Lv T (6 * n) call) : MethAt T (6 * n + 6) 4 ("can" : Str) 2 (mDef 2 0 (b99 call)) :=
  G.f99.at 2 0 sc99 rfl rfl fun f cdv A outer s H E c => have c0 : Cn T (6 * n) _ := c.mono (Nat.le_add_right _ 5); have hj : 6 * n + 1 ≤ 6 * n + 5 := Nat.add_le_add_left (by decide) _; (sx_cons (sx_if (tx_not (tx_tru c (ex_call c0 L.d88 (ax_cons (ex_fld c G.fo 2 (ex_var 0) G.a__site) (ax_cons (ex_var 1) ax_nil))))) (sx_one sx_never) sx_nil)
      (sx_one (sx_ret (ex_and (ex_isN (ex_fld c G.fo 28 (ex_var 0) G.a__failure)) (ex_one (ex_meth c0 L.d80 _ (fun f h _ => G.m_allows f h) (ex_fld c G.fo 0 (ex_var 0) G.a_record) (ax_cons (ex_var 1) ax_nil)))))))
-- Machine.copy
abbrev N101 : List Str := ["self", "twin"]
theorem sc101 : FnScope N101 ["self"] (defScope s101) := ⟨rfl, rfl, rfl, by decide +kernel, rfl, by decide +kernel, by decide +kernel⟩
def b101 (call : Nat → MF) : MS := (sSeq (sSet 1 (mMakeK 4 1 1 3 wh0 (call 89) (aCons (mFld naM 2 (mVar 0)) aNil) (aCons (mFld naM 3 (mVar 0)) aNil))) (sSeq (sFldM naM 0 (mVar 1) (mFld naM 0 (mVar 0))) (sSeq (sFldM naM 1 (mVar 1) (mFld naM 1 (mVar 0))) (sSeq (sFldM naM 27 (mVar 1) (mCall (bList) (aCons (mFld naM 27 (mVar 0)) aNil))) (sSeq (sFldM naM 28 (mVar 1) (mFld naM 28 (mVar 0))) (sRet (mVar 1)))))))
theorem t101 {T : Tb} {n : Nat} {call : Nat → MF} (G : Gs T) (L : Lv T (6 * n) call) : MethAt T (6 * n + 6) 4 ("copy" : Str) 1 (mDef 1 1 (b101 call)) :=
  G.f101.at 1 1 sc101 rfl rfl fun f cdv A outer s H E c => have c0 : Cn T (6 * n) _ := c.mono (Nat.le_add_right _ 5); have hj : 6 * n + 1 ≤ 6 * n + 5 := Nat.add_le_add_left (by decide) _; (sx_cons (sx_set c 1 (ex_makeK c hj L.k0 (ax_cons (ex_fld c G.fo 2 (ex_var 0) G.a__site) ax_nil) (kx_cons (ex_fld c G.fo 3 (ex_var 0) G.a__cares) kx_nil)))
      (sx_cons (sx_fld c G.fo 0 (ex_var 1) (ex_fld c G.fo 0 (ex_var 0) G.a_record) G.a_record)
      (sx_cons (sx_fld c G.fo 1 (ex_var 1) (ex_fld c G.fo 1 (ex_var 0) G.a_browser) G.a_browser)
      (sx_cons (sx_fld c G.fo 27 (ex_var 1) (ex_callTy (call_list3 c) (ax_cons (ex_fld c G.fo 27 (ex_var 0) G.a__past) ax_nil) (hm := G.n_list)) G.a__past)
      (sx_cons (sx_fld c G.fo 28 (ex_var 1) (ex_fld c G.fo 28 (ex_var 0) G.a__failure) G.a__failure)
      (sx_one (sx_ret (ex_var 1))))))))
-- Machine.shown
abbrev N102 : List Str := ["self"]
theorem sc102 : FnScope N102 ["self"] (defScope s102) := ⟨rfl, rfl, rfl, by decide +kernel, rfl, by decide +kernel, by decide +kernel⟩
def b102 (call : Nat → MF) : MS := (sRet (mMethN 0 (fun _ => false) 2 (call 12) (mFld naM 1 (mVar 0)) (aCons (mFld naM 4 (mFld naM 1 (mVar 0))) aNil)))
theorem t102 {T : Tb} {n : Nat} {call : Nat → MF} (G : Gs T) (L : Lv T (6 * n) call) : MethAt T (6 * n + 6) 4 ("shown" : Str) 1 (mDef 1 0 (b102 call)) :=
  G.f102.at 1 0 sc102 rfl rfl fun f cdv A outer s H E c => have c0 : Cn T (6 * n) _ := c.mono (Nat.le_add_right _ 5); have hj : 6 * n + 1 ≤ 6 * n + 5 := Nat.add_le_add_left (by decide) _; (sx_one (sx_ret (ex_meth c0 L.d12 _ (fun f h _ => G.m_view f h) (ex_fld c G.fo 1 (ex_var 0) G.a_browser) (ax_cons (ex_fld c G.fo 4 (ex_fld c G.fo 1 (ex_var 0) G.a_browser) G.a_frame) ax_nil))))
-- Machine.counts
abbrev N103 : List Str := ["self"]
theorem sc103 : FnScope N103 ["self"] (defScope s103) := ⟨rfl, rfl, rfl, by decide +kernel, rfl, by decide +kernel, by decide +kernel⟩
def b103 (call : Nat → MF) : MS := (sRet (mMethN 0 (fun _ => false) 1 (call 11) (mFld naM 1 (mVar 0)) aNil))
theorem t103 {T : Tb} {n : Nat} {call : Nat → MF} (G : Gs T) (L : Lv T (6 * n) call) : MethAt T (6 * n + 6) 4 ("counts" : Str) 1 (mDef 1 0 (b103 call)) :=
  G.f103.at 1 0 sc103 rfl rfl fun f cdv A outer s H E c => have c0 : Cn T (6 * n) _ := c.mono (Nat.le_add_right _ 5); have hj : 6 * n + 1 ≤ 6 * n + 5 := Nat.add_le_add_left (by decide) _; (sx_one (sx_ret (ex_meth0 c0 L.d11 _ (fun f h _ => G.m_step_counts f h) (ex_fld c G.fo 1 (ex_var 0) G.a_browser))))
-- difference
abbrev N104 : List Str := ["record", "browser", "path"]
theorem sc104 : FnScope N104 ["record", "browser"] (defScope s104) := ⟨rfl, rfl, rfl, by decide +kernel, rfl, by decide +kernel, by decide +kernel⟩
def b104 (call : Nat → MF) : MS := (sSeq (sIf (tV (mBin (dEq true) (mMethN 0 (fun _ => false) 1 (call 11) (mVar 1) aNil) (mTup (aCons (mCall (bLen) (aCons (mFld naM 25 (mVar 0)) aNil)) (aCons (mFld naM 26 (mVar 0)) aNil))))) (sRet (mTup (aCons (mC (.str [115, 116, 101, 112, 115])) (aCons (mTup aNil) aNil)))) sNil) (sSeq (sSet 2 (mCallN 3 (call 105) (aCons (mCallN 1 (call 68) (aCons (mMethN 3 (fun _ => false) 1 (call 78) (mVar 0) aNil) aNil)) (aCons (mMethN 0 (fun _ => false) 2 (call 12) (mVar 1) (aCons (mFld naM 4 (mVar 1)) aNil)) (aCons (mTup aNil) aNil))))) (sSeq (sIf (tV (mUn (dIsN false) (mVar 2))) (sRet (mC .non)) sNil) (sRet (mTup (aCons (mC (.str [115, 104, 111, 119, 110])) (aCons (mVar 2) aNil)))))))
theorem t104 {T : Tb} {n : Nat} {call : Nat → MF} (G : Gs T) (L : Lv T (6 * n) call) : DefAt T (6 * n + 6) ("difference" : Str) 2 (mDef 2 1 (b104 call)) :=
  G.f104.at 2 1 sc104 rfl rfl fun f cdv A outer s H E c => have c0 : Cn T (6 * n) _ := c.mono (Nat.le_add_right _ 5); have hj : 6 * n + 1 ≤ 6 * n + 5 := Nat.add_le_add_left (by decide) _; (sx_cons (sx_if (tx_cmp (op_neM c) (fun _ _ _ _ z => z) (ex_meth0 c0 L.d11 _ (fun f h _ => G.m_step_counts f h) (ex_var 1)) (ex_tup (ax_cons (ex_callB (call_len4 c) (ax_cons (ex_fld c G.fo 25 (ex_var 0) G.a_trees) ax_nil) (hm := G.n_len)) (ax_cons (ex_fld c G.fo 26 (ex_var 0) G.a_current) ax_nil))) rfl) (sx_one (sx_ret (ex_tup (ax_cons (ex_str [115, 116, 101, 112, 115]) (ax_cons (ex_tup ax_nil) ax_nil))))) sx_nil)
      (sx_cons (sx_set c 2 (ex_call c0 L.d105 (ax_cons (ex_call c0 L.d68 (ax_cons (ex_meth0 c0 L.d78 _ (fun f h _ => G.m_tree f h) (ex_var 0)) ax_nil)) (ax_cons (ex_meth c0 L.d12 _ (fun f h _ => G.m_view f h) (ex_var 1) (ax_cons (ex_fld c G.fo 4 (ex_var 1) G.a_frame) ax_nil)) (ax_cons (ex_tup ax_nil) ax_nil)))))
      (sx_cons (sx_if (tx_isN (ex_var 2)) (sx_one (sx_ret ex_non)) sx_nil)
      (sx_one (sx_ret (ex_tup (ax_cons (ex_str [115, 104, 111, 119, 110]) (ax_cons (ex_var 2) ax_nil))))))))
-- _first_difference
abbrev N105 : List Str := ["right", "shown", "path", "address", "state", "frames", "names", "name", "_", "inner", "other", "found"]
theorem sc105 : FnScope N105 ["right", "shown", "path"] (defScope s105) := ⟨rfl, rfl, rfl, by decide +kernel, rfl, by decide +kernel, by decide +kernel⟩
def b105 (call : Nat → MF) : MS := (sSeq (sIf (tV (mBin (dEq false) (mVar 0) (mVar 1))) (sRet (mC .non)) sNil) (sSeq (sAsg (gTupM 3 (gsCons (gSet 3) (gsCons (gSet 4) (gsCons (gSet 5) gsNil)))) (mVar 0)) (sSeq (sSet 6 (mLc (iSeq (mVar 5)) (gTupM 2 (gsCons (gSet 7) (gsCons (gSet 8) gsNil))) tYesM (mVar 7) [7, 8])) (sSeq (sIf (tOrM (tV (mBin (dEq true) (mTup (aCons (mVar 3) (aCons (mVar 4) aNil))) (mSlice (mVar 1) none (some (mC (.int 2)))))) (tV (mBin (dEq true) (mVar 6) (mLc (iSeq (mBin dIx (mVar 1) (mC (.int 2)))) (gTupM 2 (gsCons (gSet 7) (gsCons (gSet 8) gsNil))) tYesM (mVar 7) [7, 8])))) (sRet (mVar 2)) sNil) (sSeq (sFor (gTupM 2 (gsCons (gTupM 2 (gsCons (gSet 7) (gsCons (gSet 9) gsNil))) (gsCons (gTupM 2 (gsCons (gSet 8) (gsCons (gSet 10) gsNil))) gsNil))) (iZipM (aCons (mVar 5) (aCons (mBin dIx (mVar 1) (mC (.int 2))) aNil))) (sSeq (sSet 11 (mCallN 3 (call 105) (aCons (mVar 9) (aCons (mVar 10) (aCons (mBin dAdd (mVar 2) (mTup (aCons (mVar 7) aNil))) aNil))))) (sIf (tV (mUn (dIsN true) (mVar 11))) (sRet (mVar 11)) sNil))) (sRet (mC .non)))))))
theorem t105 {T : Tb} {n : Nat} {call : Nat → MF} (G : Gs T) (L : Lv T (6 * n) call) : DefAt T (6 * n + 6) ("_first_difference" : Str) 3 (mDef 3 9 (b105 call)) :=
  G.f105.at 3 9 sc105 rfl rfl fun f cdv A outer s H E c => have c0 : Cn T (6 * n) _ := c.mono (Nat.le_add_right _ 5); have hj : 6 * n + 1 ≤ 6 * n + 5 := Nat.add_le_add_left (by decide) _; (sx_cons (sx_if (tx_cmp (op_eqM c) (fun _ _ _ _ z => z) (ex_var 0) (ex_var 1) rfl) (sx_one (sx_ret ex_non)) sx_nil)
      (sx_cons (sx_asg (ex_var 0) (gx_tup c (gsx_cons (gx_name c 3) (gsx_cons (gx_name c 4) (gsx_cons (gx_name c 5) gsx_nil)))))
      (sx_cons (by first | exact sx_setLc c [("name", 7), ("_", 8)] 6 (ix_seqM c (ex_var 5)) (blkOk_by (N := N105) (sc := defScope s105) (by decide +kernel)) (fun _ _ _ _ _ => (gx_tup (Cn.blk c _ _ _ _ _) (gsx_cons (gx_name (Cn.blk c _ _ _ _ _) 7) (gsx_cons (gx_name (Cn.blk c _ _ _ _ _) 8) gsx_nil)))) (fun _ _ _ _ _ => tsx_nil) (fun _ _ _ _ _ => (ex_var 7)) (sw_true rfl rfl rfl (by decide +kernel)) | exact sx_set c 6 (ex_lc c [("name", 7), ("_", 8)] (ix_seqM c (ex_var 5)) (blkOk_by (N := N105) (sc := defScope s105) (by decide +kernel)) (fun _ _ _ _ _ => (gx_tup (Cn.blk c _ _ _ _ _) (gsx_cons (gx_name (Cn.blk c _ _ _ _ _) 7) (gsx_cons (gx_name (Cn.blk c _ _ _ _ _) 8) gsx_nil)))) (fun _ _ _ _ _ => tsx_nil) (fun _ _ _ _ _ => (ex_var 7))))
      (sx_cons (sx_if (PW.pt (tx_or (tx_cmp (op_neM c) (fun _ _ _ _ z => z) (ex_tup (ax_cons (ex_var 3) (ax_cons (ex_var 4) ax_nil))) (ex_slice c (ex_var 1) ox_none (ox_some ex_int)) rfl) (tx_or1 (tx_cmp (op_neM c) (fun _ _ _ _ z => z) (ex_var 6) (ex_lc c [("name", 7), ("_", 8)] (ix_seqM c (ex_ix c (ex_var 1) ex_int)) (blkOk_by (N := N105) (sc := defScope s105) (by decide +kernel)) (fun _ _ _ _ _ => (gx_tup (Cn.blk c _ _ _ _ _) (gsx_cons (gx_name (Cn.blk c _ _ _ _ _) 7) (gsx_cons (gx_name (Cn.blk c _ _ _ _ _) 8) gsx_nil)))) (fun _ _ _ _ _ => tsx_nil) (fun _ _ _ _ _ => (ex_var 7))) rfl)))) (sx_one (sx_ret (ex_var 2))) sx_nil)
      (sx_cons (sx_for c (ix_zipM c (ax_cons (ex_var 5) (ax_cons (ex_ix c (ex_var 1) ex_int) ax_nil)) (hm := G.n_zip)) (gx_tup c (gsx_cons (gx_tup c (gsx_cons (gx_name c 7) (gsx_cons (gx_name c 9) gsx_nil))) (gsx_cons (gx_tup c (gsx_cons (gx_name c 8) (gsx_cons (gx_name c 10) gsx_nil))) gsx_nil)))
      (sx_cons (sx_set c 11 (ex_call c0 L.d105 (ax_cons (ex_var 9) (ax_cons (ex_var 10) (ax_cons (ex_op (op_addM c) (fun _ _ _ _ z => z) (ex_var 2) (ex_tup (ax_cons (ex_var 7) ax_nil))) ax_nil)))))
      (sx_one (sx_if (tx_notN (ex_var 11)) (sx_one (sx_ret (ex_var 11))) sx_nil))))
      (sx_one (sx_ret ex_non)))))))
-- spot_of
abbrev N106 : List Str := ["record", "numbers", "trees", "tree"]
theorem sc106 : FnScope N106 ["record"] (defScope s106) := ⟨rfl, rfl, rfl, by decide +kernel, rfl, by decide +kernel, by decide +kernel⟩
def b106 (call : Nat → MF) : MS := (sSeq (sSet 1 (mDNew false)) (sSeq (sSet 2 (mCall (bTup) (aCons (mLc (iSeq (mFld naM 25 (mVar 0))) (gSet 3) tYesM (mCallN 2 (call 108) (aCons (mVar 3) (aCons (mVar 1) aNil))) [3]) aNil))) (sRet (mTup (aCons (mVar 2) (aCons (mFld naM 26 (mVar 0)) aNil))))))
theorem t106 {T : Tb} {n : Nat} {call : Nat → MF} (G : Gs T) (L : Lv T (6 * n) call) : DefAt T (6 * n + 6) ("spot_of" : Str) 1 (mDef 1 3 (b106 call)) :=
  G.f106.at 1 3 sc106 rfl rfl fun f cdv A outer s H E c => have c0 : Cn T (6 * n) _ := c.mono (Nat.le_add_right _ 5); have hj : 6 * n + 1 ≤ 6 * n + 5 := Nat.add_le_add_left (by decide) _; (sx_cons (sx_set c 1 ex_dnewK)
      (sx_cons (sx_set c 2 (ex_callTy (call_tup2 c) (ax_cons (ex_lc c [("tree", 3)] (ix_seqM c (ex_fld c G.fo 25 (ex_var 0) G.a_trees)) (blkOk_by (N := N106) (sc := defScope s106) (by decide +kernel)) (fun _ _ _ _ _ => (gx_name (Cn.blk c _ _ _ _ _) 3)) (fun _ _ _ _ _ => tsx_nil) (fun _ _ _ _ _ => (ex_call (Cn.blk c0 _ _ _ _ _) L.d108 (ax_cons (ex_var 3) (ax_cons (ex_var 1) ax_nil))))) ax_nil) (hm := G.n_tuple)))
      (sx_one (sx_ret (ex_tup (ax_cons (ex_var 2) (ax_cons (ex_fld c G.fo 26 (ex_var 0) G.a_current) ax_nil)))))))
-- record_at
abbrev N107 : List Str := ["site", "spot", "trees", "current", "fresh", "tree", "number"]
theorem sc107 : FnScope N107 ["site", "spot"] (defScope s107) := ⟨rfl, rfl, rfl, by decide +kernel, rfl, by decide +kernel, by decide +kernel⟩
def b107 (call : Nat → MF) : MS := (sSeq (sAsg (gTupM 2 (gsCons (gSet 2) (gsCons (gSet 3) gsNil))) (mVar 1)) (sSeq (sSet 4 (mBin dAdd (mC (.int 1)) (mCall (bBest true) (aCons (mLc2 (iSeq (mVar 2)) (gSet 5) tYesM (iSeq (mCallN 1 (call 69) (aCons (mVar 5) aNil))) (gSet 6) tYesM (mVar 6) [5, 6] [6]) aNil)))) (sRet (mMakeN 3 5 (call 77) (aCons (mVar 0) (aCons (mVar 2) (aCons (mVar 3) (aCons (mVar 4) aNil))))))))
theorem t107 {T : Tb} {n : Nat} {call : Nat → MF} (G : Gs T) (L : Lv T (6 * n) call) : DefAt T (6 * n + 6) ("record_at" : Str) 2 (mDef 2 5 (b107 call)) :=
  G.f107.at 2 5 sc107 rfl rfl fun f cdv A outer s H E c => have c0 : Cn T (6 * n) _ := c.mono (Nat.le_add_right _ 5); have hj : 6 * n + 1 ≤ 6 * n + 5 := Nat.add_le_add_left (by decide) _; (sx_cons (sx_asg (ex_var 1) (gx_tup c (gsx_cons (gx_name c 2) (gsx_cons (gx_name c 3) gsx_nil))))
      (sx_cons (sx_set c 4 (ex_op (op_addM c) (fun _ _ _ _ z => z) ex_int (ex_callB (call_maxM c) (ax_cons (ex_lc2 c [("tree", 5), ("number", 6)] (ix_seqM c (ex_var 2)) (blkOk_by (N := N107) (sc := defScope s107) (by decide +kernel)) (fun _ _ _ _ _ => (gx_name (Cn.blk c _ _ _ _ _) 5)) (fun _ _ _ _ _ => tsx_nil) (fun _ _ _ _ _ => (ix_seqM (Cn.blk c _ _ _ _ _) (ex_call (Cn.blk c0 _ _ _ _ _) L.d69 (ax_cons (ex_var 5) ax_nil)))) (fun _ _ _ _ _ => (gx_name (Cn.blk c _ _ _ _ _) 6)) (fun _ _ _ _ _ => tsx_nil) (fun _ _ _ _ _ => (ex_var 6))) ax_nil) (hm := G.n_max))))
      (sx_one (sx_ret (ex_make c hj L.d77 (ax_cons (ex_var 0) (ax_cons (ex_var 2) (ax_cons (ex_var 3) (ax_cons (ex_var 4) ax_nil)))))))))
-- _plain_tree
abbrev N108 : List Str := ["tree", "numbers", "number", "address", "mark", "frames", "plain", "name", "inner"]
theorem sc108 : FnScope N108 ["tree", "numbers"] (defScope s108) := ⟨rfl, rfl, rfl, by decide +kernel, rfl, by decide +kernel, by decide +kernel⟩
def b108 (call : Nat → MF) : MS := (sSeq (sAsg (gTupM 4 (gsCons (gSet 2) (gsCons (gSet 3) (gsCons (gSet 4) (gsCons (gSet 5) gsNil))))) (mVar 0)) (sSeq (sSet 6 (mSetd (mVar 1) (mVar 2) (mCall (bLen) (aCons (mVar 1) aNil)))) (sRet (mTup (aCons (mVar 6) (aCons (mVar 3) (aCons (mVar 4) (aCons (mCall (bTup) (aCons (mLc (iSeq (mVar 5)) (gTupM 2 (gsCons (gSet 7) (gsCons (gSet 8) gsNil))) tYesM (mTup (aCons (mVar 7) (aCons (mCallN 2 (call 108) (aCons (mVar 8) (aCons (mVar 1) aNil))) aNil))) [7, 8]) aNil)) aNil))))))))
theorem t108 {T : Tb} {n : Nat} {call : Nat → MF} (G : Gs T) (L : Lv T (6 * n) call) : DefAt T (6 * n + 6) ("_plain_tree" : Str) 2 (mDef 2 7 (b108 call)) :=
  G.f108.at 2 7 sc108 rfl rfl fun f cdv A outer s H E c => have c0 : Cn T (6 * n) _ := c.mono (Nat.le_add_right _ 5); have hj : 6 * n + 1 ≤ 6 * n + 5 := Nat.add_le_add_left (by decide) _; (sx_cons (sx_asg (ex_var 0) (gx_tup c (gsx_cons (gx_name c 2) (gsx_cons (gx_name c 3) (gsx_cons (gx_name c 4) (gsx_cons (gx_name c 5) gsx_nil))))))
      (sx_cons (sx_set c 6 (ex_setd c (ex_var 1) (ex_var 2) (ex_callB (call_len4 c) (ax_cons (ex_var 1) ax_nil) (hm := G.n_len)) ⟨rfl, rfl, rfl, rfl⟩))
      (sx_one (sx_ret (ex_tup (ax_cons (ex_var 6) (ax_cons (ex_var 3) (ax_cons (ex_var 4) (ax_cons (ex_callTy (call_tup2 c) (ax_cons (ex_lc c [("name", 7), ("inner", 8)] (ix_seqM c (ex_var 5)) (blkOk_by (N := N108) (sc := defScope s108) (by decide +kernel)) (fun _ _ _ _ _ => (gx_tup (Cn.blk c _ _ _ _ _) (gsx_cons (gx_name (Cn.blk c _ _ _ _ _) 7) (gsx_cons (gx_name (Cn.blk c _ _ _ _ _) 8) gsx_nil)))) (fun _ _ _ _ _ => tsx_nil) (fun _ _ _ _ _ => (ex_tup (ax_cons (ex_var 7) (ax_cons (ex_call (Cn.blk c0 _ _ _ _ _) L.d108 (ax_cons (ex_var 8) (ax_cons (ex_var 1) ax_nil))) ax_nil))))) ax_nil) (hm := G.n_tuple)) ax_nil)))))))))
-- state
abbrev N109 : List Str := ["machine"]
theorem sc109 : FnScope N109 ["machine"] (defScope s109) := ⟨rfl, rfl, rfl, by decide +kernel, rfl, by decide +kernel, by decide +kernel⟩
def b109 (call : Nat → MF) : MS := (sSeq (sExpr (mCallN 1 (call 111) (aCons (mVar 0) aNil))) (sRet (mCallN 2 (call 112) (aCons (mFld naM 0 (mVar 0)) (aCons (mFld naM 1 (mVar 0)) aNil)))))
theorem t109 {T : Tb} {n : Nat} {call : Nat → MF} (G : Gs T) (L : Lv T (6 * n) call) : DefAt T (6 * n + 6) ("state" : Str) 1 (mDef 1 0 (b109 call)) :=
  G.f109.at 1 0 sc109 rfl rfl fun f cdv A outer s H E c => have c0 : Cn T (6 * n) _ := c.mono (Nat.le_add_right _ 5); have hj : 6 * n + 1 ≤ 6 * n + 5 := Nat.add_le_add_left (by decide) _; (sx_cons (sx_expr (ex_call c0 L.d111 (ax_cons (ex_var 0) ax_nil)))
      (sx_one (sx_ret (ex_call c0 L.d112 (ax_cons (ex_fld c G.fo 0 (ex_var 0) G.a_record) (ax_cons (ex_fld c G.fo 1 (ex_var 0) G.a_browser) ax_nil))))))
-- machine_at
abbrev N110 : List Str := ["site", "cares", "state", "machine", "trees", "here", "many", "index", "frame", "documents", "entries"]
theorem sc110 : FnScope N110 ["site", "cares", "state"] (defScope s110) := ⟨rfl, rfl, rfl, by decide +kernel, rfl, by decide +kernel, by decide +kernel⟩
def b110 (call : Nat → MF) : MS := (sSeq (sSet 3 (mMakeK 4 1 1 3 wh0 (call 89) (aCons (mVar 0) aNil) (aCons (mVar 1) aNil))) (sSeq (sAsg (gTupM 5 (gsCons (gSet 4) (gsCons (gSet 5) (gsCons (gSet 6) (gsCons (gSet 7) (gsCons (gSet 8) gsNil)))))) (mVar 2)) (sSeq (sFldM naM 0 (mVar 3) (mCallN 2 (call 107) (aCons (mVar 0) (aCons (mTup (aCons (mVar 4) (aCons (mVar 5) aNil))) aNil)))) (sSeq (sSet 9 (mDNew false)) (sSeq (sSet 10 (mCallN 2 (call 115) (aCons (mVar 8) (aCons (mVar 9) aNil)))) (sSeq (sFldM naM 1 (mVar 3) (mMakeN 0 6 (call 8) (aCons (mVar 0) (aCons (mProp 4 (call 91) (mVar 3)) (aCons (mTup (aCons (mC (.int 0)) (aCons (mBin dSub (mVar 6) (mC (.int 1))) (aCons (mVar 7) aNil)))) (aCons (mVar 10) (aCons (mVar 9) aNil))))))) (sRet (mVar 3))))))))
theorem t110 {T : Tb} {n : Nat} {call : Nat → MF} (G : Gs T) (L : Lv T (6 * n) call) : DefAt T (6 * n + 6) ("machine_at" : Str) 3 (mDef 3 8 (b110 call)) :=
  G.f110.at 3 8 sc110 rfl rfl fun f cdv A outer s H E c => have c0 : Cn T (6 * n) _ := c.mono (Nat.le_add_right _ 5); have hj : 6 * n + 1 ≤ 6 * n + 5 := Nat.add_le_add_left (by decide) _; (sx_cons (sx_set c 3 (ex_makeK c hj L.k0 (ax_cons (ex_var 0) ax_nil) (kx_cons (ex_var 1) kx_nil)))
      (sx_cons (sx_asg (ex_var 2) (gx_tup c (gsx_cons (gx_name c 4) (gsx_cons (gx_name c 5) (gsx_cons (gx_name c 6) (gsx_cons (gx_name c 7) (gsx_cons (gx_name c 8) gsx_nil)))))))
      (sx_cons (sx_fld c G.fo 0 (ex_var 3) (ex_call c0 L.d107 (ax_cons (ex_var 0) (ax_cons (ex_tup (ax_cons (ex_var 4) (ax_cons (ex_var 5) ax_nil))) ax_nil))) G.a_record)
      (sx_cons (sx_set c 9 ex_dnewK)
      (sx_cons (sx_set c 10 (ex_call c0 L.d115 (ax_cons (ex_var 8) (ax_cons (ex_var 9) ax_nil))))
      (sx_cons (sx_fld c G.fo 1 (ex_var 3) (ex_make c hj L.d8 (ax_cons (ex_var 0) (ax_cons (ex_prop c hj L.d91 (ex_var 3)) (ax_cons (ex_tup (ax_cons ex_int (ax_cons (ex_op op_subM (fun _ _ _ _ z => z) (ex_var 6) ex_int) (ax_cons (ex_var 7) ax_nil)))) (ax_cons (ex_var 10) (ax_cons (ex_var 9) ax_nil)))))) G.a_browser)
      (sx_one (sx_ret (ex_var 3)))))))))
-- check_machine
abbrev N111 : List Str := ["machine"]
theorem sc111 : FnScope N111 ["machine"] (defScope s111) := ⟨rfl, rfl, rfl, by decide +kernel, rfl, by decide +kernel, by decide +kernel⟩
def b111 (call : Nat → MF) : MS := (sIf (tOrM (tNotM (tTru (mCall (bIsi 5) (aCons (mVar 0) (aCons (mC (.cn (Nat.add 16 4))) aNil))))) (tV (mUn (dIsN true) (mProp 4 (call 92) (mVar 0))))) sNever sNil)
theorem t111 {T : Tb} {n : Nat} {call : Nat → MF} (G : Gs T) (L : Lv T (6 * n) call) : DefAt T (6 * n + 6) ("check_machine" : Str) 1 (mDef 1 0 (b111 call)) :=
  G.f111.at 1 0 sc111 rfl rfl fun f cdv A outer s H E c => have c0 : Cn T (6 * n) _ := c.mono (Nat.le_add_right _ 5); have hj : 6 * n + 1 ≤ 6 * n + 5 := Nat.add_le_add_left (by decide) _; (sx_one (sx_if (PW.pt (tx_or (tx_not (tx_tru c (ex_callB (call_isiM c G.kt G.nc1 G.nc0) (ax_cons (ex_var 0) (ax_cons (ex_cls c 4 G.c_Machine) ax_nil)) (hm := G.n_isinstance)))) (tx_or1 (tx_notN (ex_prop c hj L.d92 (ex_var 0)))))) (sx_one sx_never) sx_nil))
-- state_of
abbrev N112 : List Str := ["record", "browser", "trees", "here", "many", "index"]
theorem sc112 : FnScope N112 ["record", "browser"] (defScope s112) := ⟨rfl, rfl, rfl, by decide +kernel, rfl, by decide +kernel, by decide +kernel⟩
def b112 (call : Nat → MF) : MS := (sSeq (sAsg (gTupM 2 (gsCons (gSet 2) (gsCons (gSet 3) gsNil))) (mCallN 1 (call 106) (aCons (mVar 0) aNil))) (sSeq (sAsg (gTupM 2 (gsCons (gSet 4) (gsCons (gSet 5) gsNil))) (mMethN 0 (fun _ => false) 1 (call 11) (mVar 1) aNil)) (sRet (mTup (aCons (mVar 2) (aCons (mVar 3) (aCons (mVar 4) (aCons (mVar 5) (aCons (mCallN 3 (call 113) (aCons (mVar 1) (aCons (mFld naM 4 (mVar 1)) (aCons (mDNew false) aNil)))) aNil)))))))))
theorem t112 {T : Tb} {n : Nat} {call : Nat → MF} (G : Gs T) (L : Lv T (6 * n) call) : DefAt T (6 * n + 6) ("state_of" : Str) 2 (mDef 2 4 (b112 call)) :=
  G.f112.at 2 4 sc112 rfl rfl fun f cdv A outer s H E c => have c0 : Cn T (6 * n) _ := c.mono (Nat.le_add_right _ 5); have hj : 6 * n + 1 ≤ 6 * n + 5 := Nat.add_le_add_left (by decide) _; (sx_cons (sx_asg (ex_call c0 L.d106 (ax_cons (ex_var 0) ax_nil)) (gx_tup c (gsx_cons (gx_name c 2) (gsx_cons (gx_name c 3) gsx_nil))))
      (sx_cons (sx_asg (ex_meth0 c0 L.d11 _ (fun f h _ => G.m_step_counts f h) (ex_var 1)) (gx_tup c (gsx_cons (gx_name c 4) (gsx_cons (gx_name c 5) gsx_nil))))
      (sx_one (sx_ret (ex_tup (ax_cons (ex_var 2) (ax_cons (ex_var 3) (ax_cons (ex_var 4) (ax_cons (ex_var 5) (ax_cons (ex_call c0 L.d113 (ax_cons (ex_var 1) (ax_cons (ex_fld c G.fo 4 (ex_var 1) G.a_frame) (ax_cons ex_dnewK ax_nil)))) ax_nil))))))))))
-- _plain_frame
abbrev N113 : List Str := ["browser", "frame", "numbers", "rows", "step", "mark", "number"]
theorem sc113 : FnScope N113 ["browser", "frame", "numbers"] (defScope s113) := ⟨rfl, rfl, rfl, by decide +kernel, rfl, by decide +kernel, by decide +kernel⟩
def b113 (call : Nat → MF) : MS := (sSeq (sSet 3 (mLst aNil)) (sSeq (sFor (gTupM 3 (gsCons (gSet 4) (gsCons (gSet 5) (gsCons (gSet 6) gsNil)))) (iSeq (mVar 1)) (sExpr (mBM fAppend (mVar 3) (aCons (mTup (aCons (mCall (bBest true) (aCons (mBin dSub (mVar 4) (mFld naM 9 (mVar 0))) (aCons (mUn dNeg (mC (.int 1))) aNil))) (aCons (mVar 5) (aCons (mCallN 3 (call 114) (aCons (mVar 0) (aCons (mVar 6) (aCons (mVar 2) aNil)))) aNil)))) aNil)))) (sRet (mCall (bTup) (aCons (mVar 3) aNil)))))
theorem t113 {T : Tb} {n : Nat} {call : Nat → MF} (G : Gs T) (L : Lv T (6 * n) call) : DefAt T (6 * n + 6) ("_plain_frame" : Str) 3 (mDef 3 4 (b113 call)) :=
  G.f113.at 3 4 sc113 rfl rfl fun f cdv A outer s H E c => have c0 : Cn T (6 * n) _ := c.mono (Nat.le_add_right _ 5); have hj : 6 * n + 1 ≤ 6 * n + 5 := Nat.add_le_add_left (by decide) _; (sx_cons (sx_set c 3 (ex_lst ax_nil))
      (sx_cons (sx_for c (ix_seqM c (ex_var 1)) (gx_tup c (gsx_cons (gx_name c 4) (gsx_cons (gx_name c 5) (gsx_cons (gx_name c 6) gsx_nil))))
      (sx_one (sx_expr (ex_bm c PySem.F.slot_list_append PySem.F.type_list_append mt_appendM (ex_var 3) (ax_cons (ex_tup (ax_cons (ex_callB (call_maxM c) (ax_cons (ex_op op_subM (fun _ _ _ _ z => z) (ex_var 4) (ex_fld c G.fo 9 (ex_var 0) G.a_first)) (ax_cons (ex_neg ex_int) ax_nil)) (hm := G.n_max)) (ax_cons (ex_var 5) (ax_cons (ex_call c0 L.d114 (ax_cons (ex_var 0) (ax_cons (ex_var 6) (ax_cons (ex_var 2) ax_nil)))) ax_nil)))) ax_nil)))))
      (sx_one (sx_ret (ex_callTy (call_tup2 c) (ax_cons (ex_var 3) ax_nil) (hm := G.n_tuple))))))
-- _plain_document
abbrev N114 : List Str := ["browser", "number", "numbers", "address", "kept", "frames", "name", "frame"]
theorem sc114 : FnScope N114 ["browser", "number", "numbers"] (defScope s114) := ⟨rfl, rfl, rfl, by decide +kernel, rfl, by decide +kernel, by decide +kernel⟩
def b114 (call : Nat → MF) : MS := (sSeq (sIf (tV (mBin (dHas false) (mVar 1) (mVar 2))) (sRet (mBin dGet (mVar 2) (mVar 1))) sNil) (sSeq (sDput (mCall (bLen) (aCons (mVar 2) aNil)) (mVar 2) (mVar 1)) (sSeq (sAsg (gTupM 3 (gsCons (gSet 3) (gsCons (gSet 4) (gsCons (gSet 5) gsNil)))) (mBin dGet (mFld naM 5 (mVar 0)) (mVar 1))) (sRet (mTup (aCons (mVar 3) (aCons (mVar 4) (aCons (mCall (bTup) (aCons (mLc (iSeq (mVar 5)) (gTupM 2 (gsCons (gSet 6) (gsCons (gSet 7) gsNil))) tYesM (mTup (aCons (mVar 6) (aCons (mCallN 3 (call 113) (aCons (mVar 0) (aCons (mVar 7) (aCons (mVar 2) aNil)))) aNil))) [6, 7]) aNil)) aNil))))))))
theorem t114 {T : Tb} {n : Nat} {call : Nat → MF} (G : Gs T) (L : Lv T (6 * n) call) : DefAt T (6 * n + 6) ("_plain_document" : Str) 3 (mDef 3 5 (b114 call)) :=
  G.f114.at 3 5 sc114 rfl rfl fun f cdv A outer s H E c => have c0 : Cn T (6 * n) _ := c.mono (Nat.le_add_right _ 5); have hj : 6 * n + 1 ≤ 6 * n + 5 := Nat.add_le_add_left (by decide) _; (sx_cons (sx_if (tx_din c (ex_var 1) (ex_var 2)) (sx_one (sx_ret (ex_dget c (ex_var 2) (ex_var 1)))) sx_nil)
      (sx_cons (sx_dput c (ex_var 2) (ex_var 1) (ex_callB (call_len4 c) (ax_cons (ex_var 2) ax_nil) (hm := G.n_len)))
      (sx_cons (sx_asg (ex_dget c (ex_fld c G.fo 5 (ex_var 0) G.a_documents) (ex_var 1)) (gx_tup c (gsx_cons (gx_name c 3) (gsx_cons (gx_name c 4) (gsx_cons (gx_name c 5) gsx_nil)))))
      (sx_one (sx_ret (ex_tup (ax_cons (ex_var 3) (ax_cons (ex_var 4) (ax_cons (ex_callTy (call_tup2 c) (ax_cons (ex_lc c [("name", 6), ("frame", 7)] (ix_seqM c (ex_var 5)) (blkOk_by (N := N114) (sc := defScope s114) (by decide +kernel)) (fun _ _ _ _ _ => (gx_tup (Cn.blk c _ _ _ _ _) (gsx_cons (gx_name (Cn.blk c _ _ _ _ _) 6) (gsx_cons (gx_name (Cn.blk c _ _ _ _ _) 7) gsx_nil)))) (fun _ _ _ _ _ => tsx_nil) (fun _ _ _ _ _ => (ex_tup (ax_cons (ex_var 6) (ax_cons (ex_call (Cn.blk c0 _ _ _ _ _) L.d113 (ax_cons (ex_var 0) (ax_cons (ex_var 7) (ax_cons (ex_var 2) ax_nil)))) ax_nil))))) ax_nil) (hm := G.n_tuple)) ax_nil)))))))))
-- _entries_of
abbrev N115 : List Str := ["frame", "documents", "rows", "step", "mark", "document"]
theorem sc115 : FnScope N115 ["frame", "documents"] (defScope s115) := ⟨rfl, rfl, rfl, by decide +kernel, rfl, by decide +kernel, by decide +kernel⟩
def b115 (call : Nat → MF) : MS := (sSeq (sSet 2 (mLst aNil)) (sSeq (sFor (gTupM 3 (gsCons (gSet 3) (gsCons (gSet 4) (gsCons (gSet 5) gsNil)))) (iSeq (mVar 0)) (sExpr (mBM fAppend (mVar 2) (aCons (mTup (aCons (mVar 3) (aCons (mVar 4) (aCons (mCallN 2 (call 116) (aCons (mVar 5) (aCons (mVar 1) aNil))) aNil)))) aNil)))) (sRet (mCall (bTup) (aCons (mVar 2) aNil)))))
theorem t115 {T : Tb} {n : Nat} {call : Nat → MF} (G : Gs T) (L : Lv T (6 * n) call) : DefAt T (6 * n + 6) ("_entries_of" : Str) 2 (mDef 2 4 (b115 call)) :=
  G.f115.at 2 4 sc115 rfl rfl fun f cdv A outer s H E c => have c0 : Cn T (6 * n) _ := c.mono (Nat.le_add_right _ 5); have hj : 6 * n + 1 ≤ 6 * n + 5 := Nat.add_le_add_left (by decide) _; (sx_cons (sx_set c 2 (ex_lst ax_nil))
      (sx_cons (sx_for c (ix_seqM c (ex_var 0)) (gx_tup c (gsx_cons (gx_name c 3) (gsx_cons (gx_name c 4) (gsx_cons (gx_name c 5) gsx_nil))))
      (sx_one (sx_expr (ex_bm c PySem.F.slot_list_append PySem.F.type_list_append mt_appendM (ex_var 2) (ax_cons (ex_tup (ax_cons (ex_var 3) (ax_cons (ex_var 4) (ax_cons (ex_call c0 L.d116 (ax_cons (ex_var 5) (ax_cons (ex_var 1) ax_nil))) ax_nil)))) ax_nil)))))
      (sx_one (sx_ret (ex_callTy (call_tup2 c) (ax_cons (ex_var 2) ax_nil) (hm := G.n_tuple))))))
-- _number_of
abbrev N116 : List Str := ["document", "documents", "number", "address", "kept", "frames", "name", "frame"]
theorem sc116 : FnScope N116 ["document", "documents"] (defScope s116) := ⟨rfl, rfl, rfl, by decide +kernel, rfl, by decide +kernel, by decide +kernel⟩
def b116 (call : Nat → MF) : MS := (sSeq (sIf (tTru (mCall (bIsi 5) (aCons (mVar 0) (aCons (mC (.cn 0)) aNil)))) (sRet (mVar 0)) sNil) (sSeq (sSet 2 (mCall (bLen) (aCons (mVar 1) aNil))) (sSeq (sAsg (gTupM 3 (gsCons (gSet 3) (gsCons (gSet 4) (gsCons (gSet 5) gsNil)))) (mVar 0)) (sSeq (sDput (mTup (aCons (mVar 3) (aCons (mVar 4) (aCons (mTup aNil) aNil)))) (mVar 1) (mVar 2)) (sSeq (sDput (mTup (aCons (mVar 3) (aCons (mVar 4) (aCons (mCall (bTup) (aCons (mLc (iSeq (mVar 5)) (gTupM 2 (gsCons (gSet 6) (gsCons (gSet 7) gsNil))) tYesM (mTup (aCons (mVar 6) (aCons (mCallN 2 (call 115) (aCons (mVar 7) (aCons (mVar 1) aNil))) aNil))) [6, 7]) aNil)) aNil)))) (mVar 1) (mVar 2)) (sRet (mVar 2)))))))
theorem t116 {T : Tb} {n : Nat} {call : Nat → MF} (G : Gs T) (L : Lv T (6 * n) call) : DefAt T (6 * n + 6) ("_number_of" : Str) 2 (mDef 2 6 (b116 call)) :=
  G.f116.at 2 6 sc116 rfl rfl fun f cdv A outer s H E c => have c0 : Cn T (6 * n) _ := c.mono (Nat.le_add_right _ 5); have hj : 6 * n + 1 ≤ 6 * n + 5 := Nat.add_le_add_left (by decide) _; (sx_cons (sx_if (tx_tru c (ex_callB (call_isiM c G.kt G.nc1 G.nc0) (ax_cons (ex_var 0) (ax_cons (ex_ty 0 (hm := G.n_int)) ax_nil)) (hm := G.n_isinstance))) (sx_one (sx_ret (ex_var 0))) sx_nil)
      (sx_cons (sx_set c 2 (ex_callB (call_len4 c) (ax_cons (ex_var 1) ax_nil) (hm := G.n_len)))
      (sx_cons (sx_asg (ex_var 0) (gx_tup c (gsx_cons (gx_name c 3) (gsx_cons (gx_name c 4) (gsx_cons (gx_name c 5) gsx_nil)))))
      (sx_cons (sx_dput c (ex_var 1) (ex_var 2) (ex_tup (ax_cons (ex_var 3) (ax_cons (ex_var 4) (ax_cons (ex_tup ax_nil) ax_nil)))))
      (sx_cons (sx_dput c (ex_var 1) (ex_var 2) (ex_tup (ax_cons (ex_var 3) (ax_cons (ex_var 4) (ax_cons (ex_callTy (call_tup2 c) (ax_cons (ex_lc c [("name", 6), ("frame", 7)] (ix_seqM c (ex_var 5)) (blkOk_by (N := N116) (sc := defScope s116) (by decide +kernel)) (fun _ _ _ _ _ => (gx_tup (Cn.blk c _ _ _ _ _) (gsx_cons (gx_name (Cn.blk c _ _ _ _ _) 6) (gsx_cons (gx_name (Cn.blk c _ _ _ _ _) 7) gsx_nil)))) (fun _ _ _ _ _ => tsx_nil) (fun _ _ _ _ _ => (ex_tup (ax_cons (ex_var 6) (ax_cons (ex_call (Cn.blk c0 _ _ _ _ _) L.d115 (ax_cons (ex_var 7) (ax_cons (ex_var 1) ax_nil))) ax_nil))))) ax_nil) (hm := G.n_tuple)) ax_nil)))))
      (sx_one (sx_ret (ex_var 2))))))))
-- _law_site
abbrev N117 : List Str := ["_law_number", "_law_frames"]
theorem sc117 : FnScope N117 ["_law_number"] (defScope s117) := ⟨rfl, rfl, rfl, by decide +kernel, rfl, by decide +kernel, by decide +kernel⟩
def b117 (call : Nat → MF) : MS := (sSeq (sSet 1 (mDisp (mpCons (mC (.str [97])) (mTup (aCons (mTup (aCons (mC (.str [120])) (aCons (mC (.str [98])) aNil))) (aCons (mTup (aCons (mC (.str [121])) (aCons (mC (.str [98])) aNil))) aNil))) (mpCons (mC (.str [98])) (mTup aNil) (mpCons (mC (.str [99])) (mTup aNil) mpNil))))) (sSeq (sIf (tV (mBin (dEq false) (mVar 0) (mC (.int 0)))) (sRet (mMakeK 1 3 1 9 wh1 (call 32) (aCons (mVar 1) (aCons (mDisp (mpCons (mC (.str [97])) (mTup aNil) (mpCons (mC (.str [98])) (mTup (aCons (mC (.str [98])) aNil)) (mpCons (mC (.str [99])) (mTup aNil) mpNil)))) (aCons (mC (.str [97])) aNil))) (aCons (mC (.int 2)) aNil))) sNil) (sSeq (sIf (tV (mBin (dEq false) (mVar 0) (mC (.int 1)))) (sRet (mMakeK 1 3 3 9 wh2 (call 32) (aCons (mVar 1) (aCons (mDisp (mpCons (mC (.str [97])) (mTup (aCons (mC (.str [99])) aNil)) (mpCons (mC (.str [98])) (mTup (aCons (mC (.str [99])) aNil)) (mpCons (mC (.str [99])) (mTup aNil) mpNil)))) (aCons (mC (.str [97])) aNil))) (aCons (mC (.int 4)) (aCons (mC (.bl true)) (aCons (mC (.bl true)) aNil))))) sNil) (sRet (mMakeK 1 3 4 9 wh3 (call 32) (aCons (mVar 1) (aCons (mDisp (mpCons (mC (.str [97])) (mTup (aCons (mC (.str [99])) aNil)) (mpCons (mC (.str [98])) (mTup (aCons (mC (.str [99])) aNil)) (mpCons (mC (.str [99])) (mTup (aCons (mC (.str [98])) aNil)) mpNil)))) (aCons (mC (.str [97])) aNil))) (aCons (mC (.int 4)) (aCons (mC (.bl true)) (aCons (mC (.bl true)) (aCons (mTup (aCons (mC (.str [99])) aNil)) aNil)))))))))
theorem t117 {T : Tb} {n : Nat} {call : Nat → MF} (G : Gs T) (L : Lv T (6 * n) call) : DefAt T (6 * n + 6) ("_law_site" : Str) 1 (mDef 1 1 (b117 call)) :=
  G.f117.at 1 1 sc117 rfl rfl fun f cdv A outer s H E c => have c0 : Cn T (6 * n) _ := c.mono (Nat.le_add_right _ 5); have hj : 6 * n + 1 ≤ 6 * n + 5 := Nat.add_le_add_left (by decide) _; (sx_cons (sx_set c 1 (ex_disp (dps_cons (ex_str [97]) (ex_tup (ax_cons (ex_tup (ax_cons (ex_str [120]) (ax_cons (ex_str [98]) ax_nil))) (ax_cons (ex_tup (ax_cons (ex_str [121]) (ax_cons (ex_str [98]) ax_nil))) ax_nil))) (dps_cons (ex_str [98]) (ex_tup ax_nil) (dps_cons (ex_str [99]) (ex_tup ax_nil) dps_nil)))))
      (sx_cons (sx_if (tx_cmp (op_eqM c) (fun _ _ _ _ z => z) (ex_var 0) ex_int rfl) (sx_one (sx_ret (ex_makeK c hj L.k1 (ax_cons (ex_var 1) (ax_cons (ex_disp (dps_cons (ex_str [97]) (ex_tup ax_nil) (dps_cons (ex_str [98]) (ex_tup (ax_cons (ex_str [98]) ax_nil)) (dps_cons (ex_str [99]) (ex_tup ax_nil) dps_nil)))) (ax_cons (ex_str [97]) ax_nil))) (kx_cons ex_int kx_nil)))) sx_nil)
      (sx_cons (sx_if (tx_cmp (op_eqM c) (fun _ _ _ _ z => z) (ex_var 0) ex_int rfl) (sx_one (sx_ret (ex_makeK c hj L.k2 (ax_cons (ex_var 1) (ax_cons (ex_disp (dps_cons (ex_str [97]) (ex_tup (ax_cons (ex_str [99]) ax_nil)) (dps_cons (ex_str [98]) (ex_tup (ax_cons (ex_str [99]) ax_nil)) (dps_cons (ex_str [99]) (ex_tup ax_nil) dps_nil)))) (ax_cons (ex_str [97]) ax_nil))) (kx_cons ex_int (kx_cons ex_bl (kx_cons ex_bl kx_nil)))))) sx_nil)
      (sx_one (sx_ret (ex_makeK c hj L.k3 (ax_cons (ex_var 1) (ax_cons (ex_disp (dps_cons (ex_str [97]) (ex_tup (ax_cons (ex_str [99]) ax_nil)) (dps_cons (ex_str [98]) (ex_tup (ax_cons (ex_str [99]) ax_nil)) (dps_cons (ex_str [99]) (ex_tup (ax_cons (ex_str [98]) ax_nil)) dps_nil)))) (ax_cons (ex_str [97]) ax_nil))) (kx_cons ex_int (kx_cons ex_bl (kx_cons ex_bl (kx_cons (ex_tup (ax_cons (ex_str [99]) ax_nil)) kx_nil))))))))))
-- _law_after
abbrev N118 : List Str := ["_law_site_here", "_law_given", "_law_deeds", "_law_machine", "_law_deed"]
theorem sc118 : FnScope N118 ["_law_site_here", "_law_given", "_law_deeds"] (defScope s118) := ⟨rfl, rfl, rfl, by decide +kernel, rfl, by decide +kernel, by decide +kernel⟩
def b118 (call : Nat → MF) : MS := (sSeq (sSet 3 (mMakeK 4 1 1 3 wh0 (call 89) (aCons (mVar 0) aNil) (aCons (mVar 1) aNil))) (sRet (mTup (aCons (mVar 3) (aCons (mLc (iSeq (mVar 2)) (gSet 4) tYesM (mMethN 4 (fun _ => false) 2 (call 98) (mVar 3) (aCons (mVar 4) aNil)) [4]) aNil)))))
theorem t118 {T : Tb} {n : Nat} {call : Nat → MF} (G : Gs T) (L : Lv T (6 * n) call) : DefAt T (6 * n + 6) ("_law_after" : Str) 3 (mDef 3 2 (b118 call)) :=
  G.f118.at 3 2 sc118 rfl rfl fun f cdv A outer s H E c => have c0 : Cn T (6 * n) _ := c.mono (Nat.le_add_right _ 5); have hj : 6 * n + 1 ≤ 6 * n + 5 := Nat.add_le_add_left (by decide) _; (sx_cons (sx_set c 3 (ex_makeK c hj L.k0 (ax_cons (ex_var 0) ax_nil) (kx_cons (ex_var 1) kx_nil)))
      (sx_one (sx_ret (ex_tup (ax_cons (ex_var 3) (ax_cons (ex_lc c [("_law_deed", 4)] (ix_seqM c (ex_var 2)) (blkOk_by (N := N118) (sc := defScope s118) (by decide +kernel)) (fun _ _ _ _ _ => (gx_name (Cn.blk c _ _ _ _ _) 4)) (fun _ _ _ _ _ => tsx_nil) (fun _ _ _ _ _ => (ex_meth (Cn.blk c0 _ _ _ _ _) L.d98 _ (fun f h _ => G.m_do f h) (ex_var 3) (ax_cons (ex_var 4) ax_nil)))) ax_nil))))))
-- _law_last_entry_right
abbrev N119 : List Str := ["_law_x", "_law_y", "_law_plain", "_law_deeds", "_law_machine", "_law_found", "_law_rows"]
theorem sc119 : FnScope N119 [] (defScope s119) := ⟨rfl, rfl, rfl, by decide +kernel, rfl, by decide +kernel, by decide +kernel⟩
def b119 (call : Nat → MF) : MS := (sSeq (sAsg (gTupM 3 (gsCons (gSet 0) (gsCons (gSet 1) (gsCons (gSet 2) gsNil)))) (mTup (aCons (mTup (aCons (mC (.str [120])) aNil)) (aCons (mTup (aCons (mC (.str [121])) aNil)) (aCons (mTup (aCons (mC (.str [98])) (aCons (mC (.bl true)) (aCons (mTup aNil) aNil)))) aNil))))) (sSeq (sSet 3 (mLst (aCons (mTup (aCons (mC (.str [103, 111])) (aCons (mVar 0) (aCons (mC (.str [98])) aNil)))) (aCons (mTup (aCons (mC (.str [103, 111])) (aCons (mVar 1) (aCons (mC (.str [98])) aNil)))) (aCons (mTup (aCons (mC (.str [98, 97, 99, 107])) aNil)) (aCons (mTup (aCons (mC (.str [103, 111])) (aCons (mVar 0) (aCons (mC (.str [98])) aNil)))) aNil)))))) (sSeq (sAsg (gTupM 2 (gsCons (gSet 4) (gsCons (gSet 5) gsNil))) (mCallN 3 (call 118) (aCons (mCallN 1 (call 117) (aCons (mC (.int 0)) aNil)) (aCons (mLst (aCons (mC (.str [106, 111, 105, 110, 116])) (aCons (mC (.str [112, 114, 117, 110, 101, 115])) aNil))) (aCons (mVar 3) aNil))))) (sSeq (sSet 6 (mTup (aCons (mTup (aCons (mC (.str [120])) (aCons (mTup (aCons (mTup (aCons (mC (.int 0)) (aCons (mC (.int 0)) (aCons (mVar 2) aNil)))) (aCons (mTup (aCons (mC (.int 1)) (aCons (mC (.int 0)) (aCons (mVar 2) aNil)))) aNil))) aNil))) (aCons (mTup (aCons (mC (.str [121])) (aCons (mTup (aCons (mTup (aCons (mUn dNeg (mC (.int 1))) (aCons (mC (.int 0)) (aCons (mVar 2) aNil)))) aNil)) aNil))) aNil)))) (sSeq (sIf (tOrM (tV (mBin (dEq true) (mVar 5) (mBin dMul (mLst (aCons (mC .non) aNil)) (mC (.int 4))))) (tV (mBin (dEq true) (mSlice (mCallN 1 (call 109) (aCons (mVar 4) aNil)) (some (mC (.int 2))) none) (mTup (aCons (mC (.int 2)) (aCons (mC (.int 1)) (aCons (mTup (aCons (mTup (aCons (mUn dNeg (mC (.int 1))) (aCons (mC (.int 0)) (aCons (mTup (aCons (mC (.str [97])) (aCons (mC (.bl true)) (aCons (mVar 6) aNil)))) aNil)))) aNil)) aNil))))))) (sRet (mC (.bl false))) sNil) (sSeq (sAsg (gTupM 2 (gsCons (gSet 4) (gsCons (gSet 5) gsNil))) (mCallN 3 (call 118) (aCons (mCallN 1 (call 117) (aCons (mC (.int 0)) aNil)) (aCons (mLst (aCons (mC (.str [106, 111, 105, 110, 116])) (aCons (mC (.str [112, 114, 117, 110, 101, 115])) (aCons (mC (.str [99, 111, 118, 101, 114, 115])) aNil)))) (aCons (mVar 3) aNil))))) (sSeq (sSet 6 (mTup (aCons (mTup (aCons (mC (.str [120])) (aCons (mTup (aCons (mTup (aCons (mC (.int 0)) (aCons (mC (.int 0)) (aCons (mVar 2) aNil)))) (aCons (mTup (aCons (mC (.int 1)) (aCons (mC (.int 0)) (aCons (mVar 2) aNil)))) aNil))) aNil))) (aCons (mTup (aCons (mC (.str [121])) (aCons (mTup (aCons (mTup (aCons (mUn dNeg (mC (.int 1))) (aCons (mC (.int 0)) (aCons (mVar 2) aNil)))) aNil)) aNil))) aNil)))) (sRet (mAnd (mBin (dEq false) (mVar 5) (mBin dMul (mLst (aCons (mC .non) aNil)) (mC (.int 4)))) (mBin (dEq false) (mSlice (mCallN 1 (call 109) (aCons (mVar 4) aNil)) (some (mC (.int 2))) none) (mTup (aCons (mC (.int 2)) (aCons (mC (.int 1)) (aCons (mTup (aCons (mTup (aCons (mUn dNeg (mC (.int 1))) (aCons (mC (.int 0)) (aCons (mTup (aCons (mC (.str [97])) (aCons (mC (.bl true)) (aCons (mVar 6) aNil)))) aNil)))) aNil)) aNil))))))))))))))
theorem t119 {T : Tb} {n : Nat} {call : Nat → MF} (G : Gs T) (L : Lv T (6 * n) call) : DefAt T (6 * n + 6) ("_law_last_entry_right" : Str) 0 (mDef 0 7 (b119 call)) :=
  G.f119.at 0 7 sc119 rfl rfl fun f cdv A outer s H E c => have c0 : Cn T (6 * n) _ := c.mono (Nat.le_add_right _ 5); have hj : 6 * n + 1 ≤ 6 * n + 5 := Nat.add_le_add_left (by decide) _; (sx_cons (sx_asg (ex_tup (ax_cons (ex_tup (ax_cons (ex_str [120]) ax_nil)) (ax_cons (ex_tup (ax_cons (ex_str [121]) ax_nil)) (ax_cons (ex_tup (ax_cons (ex_str [98]) (ax_cons ex_bl (ax_cons (ex_tup ax_nil) ax_nil)))) ax_nil)))) (gx_tup c (gsx_cons (gx_name c 0) (gsx_cons (gx_name c 1) (gsx_cons (gx_name c 2) gsx_nil)))))
      (sx_cons (sx_set c 3 (ex_lst (ax_cons (ex_tup (ax_cons (ex_str [103, 111]) (ax_cons (ex_var 0) (ax_cons (ex_str [98]) ax_nil)))) (ax_cons (ex_tup (ax_cons (ex_str [103, 111]) (ax_cons (ex_var 1) (ax_cons (ex_str [98]) ax_nil)))) (ax_cons (ex_tup (ax_cons (ex_str [98, 97, 99, 107]) ax_nil)) (ax_cons (ex_tup (ax_cons (ex_str [103, 111]) (ax_cons (ex_var 0) (ax_cons (ex_str [98]) ax_nil)))) ax_nil))))))
      (sx_cons (sx_asg (ex_call c0 L.d118 (ax_cons (ex_call c0 L.d117 (ax_cons ex_int ax_nil)) (ax_cons (ex_lst (ax_cons (ex_str [106, 111, 105, 110, 116]) (ax_cons (ex_str [112, 114, 117, 110, 101, 115]) ax_nil))) (ax_cons (ex_var 3) ax_nil)))) (gx_tup c (gsx_cons (gx_name c 4) (gsx_cons (gx_name c 5) gsx_nil))))
      (sx_cons (sx_set c 6 (ex_tup (ax_cons (ex_tup (ax_cons (ex_str [120]) (ax_cons (ex_tup (ax_cons (ex_tup (ax_cons ex_int (ax_cons ex_int (ax_cons (ex_var 2) ax_nil)))) (ax_cons (ex_tup (ax_cons ex_int (ax_cons ex_int (ax_cons (ex_var 2) ax_nil)))) ax_nil))) ax_nil))) (ax_cons (ex_tup (ax_cons (ex_str [121]) (ax_cons (ex_tup (ax_cons (ex_tup (ax_cons (ex_neg ex_int) (ax_cons ex_int (ax_cons (ex_var 2) ax_nil)))) ax_nil)) ax_nil))) ax_nil))))
      (sx_cons (sx_if (PW.pt (tx_or (tx_cmp (op_neM c) (fun _ _ _ _ z => z) (ex_var 5) (ex_op op_mulM (fun _ _ _ _ z => z) (ex_lst (ax_cons ex_non ax_nil)) ex_int) rfl) (tx_or1 (tx_cmp (op_neM c) (fun _ _ _ _ z => z) (ex_slice c (ex_call c0 L.d109 (ax_cons (ex_var 4) ax_nil)) (ox_some ex_int) ox_none) (ex_tup (ax_cons ex_int (ax_cons ex_int (ax_cons (ex_tup (ax_cons (ex_tup (ax_cons (ex_neg ex_int) (ax_cons ex_int (ax_cons (ex_tup (ax_cons (ex_str [97]) (ax_cons ex_bl (ax_cons (ex_var 6) ax_nil)))) ax_nil)))) ax_nil)) ax_nil)))) rfl)))) (sx_one (sx_ret ex_bl)) sx_nil)
      (sx_cons (sx_asg (ex_call c0 L.d118 (ax_cons (ex_call c0 L.d117 (ax_cons ex_int ax_nil)) (ax_cons (ex_lst (ax_cons (ex_str [106, 111, 105, 110, 116]) (ax_cons (ex_str [112, 114, 117, 110, 101, 115]) (ax_cons (ex_str [99, 111, 118, 101, 114, 115]) ax_nil)))) (ax_cons (ex_var 3) ax_nil)))) (gx_tup c (gsx_cons (gx_name c 4) (gsx_cons (gx_name c 5) gsx_nil))))
      (sx_cons (sx_set c 6 (ex_tup (ax_cons (ex_tup (ax_cons (ex_str [120]) (ax_cons (ex_tup (ax_cons (ex_tup (ax_cons ex_int (ax_cons ex_int (ax_cons (ex_var 2) ax_nil)))) (ax_cons (ex_tup (ax_cons ex_int (ax_cons ex_int (ax_cons (ex_var 2) ax_nil)))) ax_nil))) ax_nil))) (ax_cons (ex_tup (ax_cons (ex_str [121]) (ax_cons (ex_tup (ax_cons (ex_tup (ax_cons (ex_neg ex_int) (ax_cons ex_int (ax_cons (ex_var 2) ax_nil)))) ax_nil)) ax_nil))) ax_nil))))
      (sx_one (sx_ret (ex_and (ex_cmp (op_eqM c) (fun _ _ _ _ z => z) (ex_var 5) (ex_op op_mulM (fun _ _ _ _ z => z) (ex_lst (ax_cons ex_non ax_nil)) ex_int) rfl) (ex_one (ex_cmp (op_eqM c) (fun _ _ _ _ z => z) (ex_slice c (ex_call c0 L.d109 (ax_cons (ex_var 4) ax_nil)) (ox_some ex_int) ox_none) (ex_tup (ax_cons ex_int (ax_cons ex_int (ax_cons (ex_tup (ax_cons (ex_tup (ax_cons (ex_neg ex_int) (ax_cons ex_int (ax_cons (ex_tup (ax_cons (ex_str [97]) (ax_cons ex_bl (ax_cons (ex_var 6) ax_nil)))) ax_nil)))) ax_nil)) ax_nil)))) rfl))))))))))))
-- _law_saved_right
abbrev N120 : List Str := ["_law_x", "_law_y", "_law_eight", "_law_deeds", "_law_machine", "_law_found", "_law_value", "_law_other", "_law_one", "_law_plain", "_law_thrown", "_law_rows", "_law_due"]
theorem sc120 : FnScope N120 [] (defScope s120) := ⟨rfl, rfl, rfl, by decide +kernel, rfl, by decide +kernel, by decide +kernel⟩
def b120 (call : Nat → MF) : MS := (sSeq (sPar [0, 1, 2] (aCons (mTup (aCons (mC (.str [120])) aNil)) (aCons (mTup (aCons (mC (.str [121])) aNil)) (aCons (mSlice (mC (.tup [(.str [106, 111, 105, 110, 116]), (.str [112, 114, 117, 110, 101, 115]), (.str [110, 101, 115, 116, 115]), (.str [110, 97, 109, 101, 115]), (.str [115, 116, 97, 116, 101, 115]), (.str [109, 101, 114, 103, 101, 115]), (.str [99, 111, 118, 101, 114, 115]), (.str [115, 104, 97, 114, 101, 115]), (.str [104, 111, 108, 100, 115])])) none (some (mC (.int 8)))) aNil)))) (sSeq (sSet 3 (mLst (aCons (mTup (aCons (mC (.str [103, 111])) (aCons (mVar 0) (aCons (mC (.str [99])) aNil)))) (aCons (mTup (aCons (mC (.str [103, 111])) (aCons (mVar 1) (aCons (mC (.str [99])) aNil)))) (aCons (mTup (aCons (mC (.str [103, 111])) (aCons (mTup aNil) (aCons (mC (.str [99])) aNil)))) (aCons (mTup (aCons (mC (.str [99, 108, 101, 97, 114])) aNil)) aNil)))))) (sSeq (sAsg (gTupM 2 (gsCons (gSet 4) (gsCons (gSet 5) gsNil))) (mCallN 3 (call 118) (aCons (mCallN 1 (call 117) (aCons (mC (.int 1)) aNil)) (aCons (mVar 2) (aCons (mVar 3) aNil))))) (sSeq (sSet 6 (mCallN 1 (call 109) (aCons (mVar 4) aNil))) (sSeq (sSet 7 (mCallN 3 (call 110) (aCons (mCallN 1 (call 117) (aCons (mC (.int 1)) aNil)) (aCons (mVar 2) (aCons (mVar 6) aNil))))) (sSeq (sFor (gSet 8) (iSeq (mLst (aCons (mVar 4) (aCons (mVar 7) aNil)))) (sSeq (sIf (tOrM (tV (mUn (dIsN true) (mMethN 4 (fun _ => false) 2 (call 98) (mVar 8) (aCons (mTup (aCons (mC (.str [98, 97, 99, 107])) aNil)) aNil)))) (tV (mBin (dEq true) (mMethN 4 (fun _ => false) 1 (call 102) (mVar 8) aNil) (mTup (aCons (mC (.str [97])) (aCons (mC (.int 0)) (aCons (mTup (aCons (mTup (aCons (mC (.str [120])) (aCons (mTup (aCons (mC (.str [99])) (aCons (mC (.int 0)) (aCons (mTup aNil) aNil)))) aNil))) (aCons (mTup (aCons (mC (.str [121])) (aCons (mTup (aCons (mC (.str [99])) (aCons (mC (.int 0)) (aCons (mTup aNil) aNil)))) aNil))) aNil))) aNil))))))) (sRet (mC (.bl false))) sNil) (sIf (tOrM (tV (mUn (dIsN true) (mMethN 4 (fun _ => false) 2 (call 98) (mVar 8) (aCons (mTup (aCons (mC (.str [98, 97, 99, 107])) aNil)) aNil)))) (tV (mBin (dEq true) (mMethN 4 (fun _ => false) 1 (call 102) (mVar 8) aNil) (mTup (aCons (mC (.str [97])) (aCons (mC (.int 0)) (aCons (mTup (aCons (mTup (aCons (mC (.str [120])) (aCons (mTup (aCons (mC (.str [99])) (aCons (mC (.int 0)) (aCons (mTup aNil) aNil)))) aNil))) (aCons (mTup (aCons (mC (.str [121])) (aCons (mTup (aCons (mC (.str [98])) (aCons (mC (.int 0)) (aCons (mTup aNil) aNil)))) aNil))) aNil))) aNil))))))) (sRet (mC (.bl false))) sNil))) (sSeq (sAsg (gTupM 2 (gsCons (gSet 9) (gsCons (gSet 10) gsNil))) (mTup (aCons (mTup (aCons (mC (.str [98])) (aCons (mC (.bl false)) (aCons (mTup aNil) aNil)))) (aCons (mTup (aCons (mC (.str [99])) (aCons (mC (.bl false)) (aCons (mTup aNil) aNil)))) aNil)))) (sSeq (sSet 11 (mTup (aCons (mTup (aCons (mC (.str [120])) (aCons (mTup (aCons (mTup (aCons (mUn dNeg (mC (.int 1))) (aCons (mC (.int 0)) (aCons (mVar 9) aNil)))) (aCons (mTup (aCons (mC (.int 1)) (aCons (mC (.int 0)) (aCons (mVar 10) aNil)))) aNil))) aNil))) (aCons (mTup (aCons (mC (.str [121])) (aCons (mTup (aCons (mTup (aCons (mUn dNeg (mC (.int 1))) (aCons (mC (.int 0)) (aCons (mVar 9) aNil)))) (aCons (mTup (aCons (mC (.int 2)) (aCons (mC (.int 0)) (aCons (mVar 10) aNil)))) aNil))) aNil))) aNil)))) (sSeq (sSet 12 (mTup (aCons (mTup (aCons (mUn dNeg (mC (.int 1))) (aCons (mC (.int 0)) (aCons (mTup (aCons (mC (.str [97])) (aCons (mC (.bl false)) (aCons (mVar 11) aNil)))) aNil)))) (aCons (mTup (aCons (mC (.int 3)) (aCons (mC (.int 0)) (aCons (mTup (aCons (mC (.str [99])) (aCons (mC (.bl true)) (aCons (mTup aNil) aNil)))) aNil)))) aNil)))) (sRet (mAnd (mBin (dEq false) (mSlice (mVar 6) (some (mC (.int 2))) none) (mTup (aCons (mC (.int 4)) (aCons (mC (.int 3)) (aCons (mVar 12) aNil))))) (mBin (dEq false) (mCallN 1 (call 109) (aCons (mVar 4) aNil)) (mCallN 1 (call 109) (aCons (mVar 7) aNil))))))))))))))
theorem t120 {T : Tb} {n : Nat} {call : Nat → MF} (G : Gs T) (L : Lv T (6 * n) call) : DefAt T (6 * n + 6) ("_law_saved_right" : Str) 0 (mDef 0 13 (b120 call)) :=
  G.f120.at 0 13 sc120 rfl rfl fun f cdv A outer s H E c => have c0 : Cn T (6 * n) _ := c.mono (Nat.le_add_right _ 5); have hj : 6 * n + 1 ≤ 6 * n + 5 := Nat.add_le_add_left (by decide) _; (sx_cons (sx_par3 c 0 1 2 (ax_cons (ex_tup (ax_cons (ex_str [120]) ax_nil)) (ax_cons (ex_tup (ax_cons (ex_str [121]) ax_nil)) (ax_cons (ex_slice c (ex_gcon c G.g_ALL_CARES) ox_none (ox_some ex_int)) ax_nil))))
      (sx_cons (sx_set c 3 (ex_lst (ax_cons (ex_tup (ax_cons (ex_str [103, 111]) (ax_cons (ex_var 0) (ax_cons (ex_str [99]) ax_nil)))) (ax_cons (ex_tup (ax_cons (ex_str [103, 111]) (ax_cons (ex_var 1) (ax_cons (ex_str [99]) ax_nil)))) (ax_cons (ex_tup (ax_cons (ex_str [103, 111]) (ax_cons (ex_tup ax_nil) (ax_cons (ex_str [99]) ax_nil)))) (ax_cons (ex_tup (ax_cons (ex_str [99, 108, 101, 97, 114]) ax_nil)) ax_nil))))))
      (sx_cons (sx_asg (ex_call c0 L.d118 (ax_cons (ex_call c0 L.d117 (ax_cons ex_int ax_nil)) (ax_cons (ex_var 2) (ax_cons (ex_var 3) ax_nil)))) (gx_tup c (gsx_cons (gx_name c 4) (gsx_cons (gx_name c 5) gsx_nil))))
      (sx_cons (sx_set c 6 (ex_call c0 L.d109 (ax_cons (ex_var 4) ax_nil)))
      (sx_cons (sx_set c 7 (ex_call c0 L.d110 (ax_cons (ex_call c0 L.d117 (ax_cons ex_int ax_nil)) (ax_cons (ex_var 2) (ax_cons (ex_var 6) ax_nil)))))
      (sx_cons (sx_for c (ix_seqM c (ex_lst (ax_cons (ex_var 4) (ax_cons (ex_var 7) ax_nil)))) (gx_name c 8)
      (sx_cons (sx_if (PW.pt (tx_or (tx_notN (ex_meth c0 L.d98 _ (fun f h _ => G.m_do f h) (ex_var 8) (ax_cons (ex_tup (ax_cons (ex_str [98, 97, 99, 107]) ax_nil)) ax_nil))) (tx_or1 (tx_cmp (op_neM c) (fun _ _ _ _ z => z) (ex_meth0 c0 L.d102 _ (fun f h _ => G.m_shown f h) (ex_var 8)) (ex_tup (ax_cons (ex_str [97]) (ax_cons ex_int (ax_cons (ex_tup (ax_cons (ex_tup (ax_cons (ex_str [120]) (ax_cons (ex_tup (ax_cons (ex_str [99]) (ax_cons ex_int (ax_cons (ex_tup ax_nil) ax_nil)))) ax_nil))) (ax_cons (ex_tup (ax_cons (ex_str [121]) (ax_cons (ex_tup (ax_cons (ex_str [99]) (ax_cons ex_int (ax_cons (ex_tup ax_nil) ax_nil)))) ax_nil))) ax_nil))) ax_nil)))) rfl)))) (sx_one (sx_ret ex_bl)) sx_nil)
      (sx_one (sx_if (PW.pt (tx_or (tx_notN (ex_meth c0 L.d98 _ (fun f h _ => G.m_do f h) (ex_var 8) (ax_cons (ex_tup (ax_cons (ex_str [98, 97, 99, 107]) ax_nil)) ax_nil))) (tx_or1 (tx_cmp (op_neM c) (fun _ _ _ _ z => z) (ex_meth0 c0 L.d102 _ (fun f h _ => G.m_shown f h) (ex_var 8)) (ex_tup (ax_cons (ex_str [97]) (ax_cons ex_int (ax_cons (ex_tup (ax_cons (ex_tup (ax_cons (ex_str [120]) (ax_cons (ex_tup (ax_cons (ex_str [99]) (ax_cons ex_int (ax_cons (ex_tup ax_nil) ax_nil)))) ax_nil))) (ax_cons (ex_tup (ax_cons (ex_str [121]) (ax_cons (ex_tup (ax_cons (ex_str [98]) (ax_cons ex_int (ax_cons (ex_tup ax_nil) ax_nil)))) ax_nil))) ax_nil))) ax_nil)))) rfl)))) (sx_one (sx_ret ex_bl)) sx_nil))))
      (sx_cons (sx_asg (ex_tup (ax_cons (ex_tup (ax_cons (ex_str [98]) (ax_cons ex_bl (ax_cons (ex_tup ax_nil) ax_nil)))) (ax_cons (ex_tup (ax_cons (ex_str [99]) (ax_cons ex_bl (ax_cons (ex_tup ax_nil) ax_nil)))) ax_nil))) (gx_tup c (gsx_cons (gx_name c 9) (gsx_cons (gx_name c 10) gsx_nil))))
      (sx_cons (sx_set c 11 (ex_tup (ax_cons (ex_tup (ax_cons (ex_str [120]) (ax_cons (ex_tup (ax_cons (ex_tup (ax_cons (ex_neg ex_int) (ax_cons ex_int (ax_cons (ex_var 9) ax_nil)))) (ax_cons (ex_tup (ax_cons ex_int (ax_cons ex_int (ax_cons (ex_var 10) ax_nil)))) ax_nil))) ax_nil))) (ax_cons (ex_tup (ax_cons (ex_str [121]) (ax_cons (ex_tup (ax_cons (ex_tup (ax_cons (ex_neg ex_int) (ax_cons ex_int (ax_cons (ex_var 9) ax_nil)))) (ax_cons (ex_tup (ax_cons ex_int (ax_cons ex_int (ax_cons (ex_var 10) ax_nil)))) ax_nil))) ax_nil))) ax_nil))))
      (sx_cons (sx_set c 12 (ex_tup (ax_cons (ex_tup (ax_cons (ex_neg ex_int) (ax_cons ex_int (ax_cons (ex_tup (ax_cons (ex_str [97]) (ax_cons ex_bl (ax_cons (ex_var 11) ax_nil)))) ax_nil)))) (ax_cons (ex_tup (ax_cons ex_int (ax_cons ex_int (ax_cons (ex_tup (ax_cons (ex_str [99]) (ax_cons ex_bl (ax_cons (ex_tup ax_nil) ax_nil)))) ax_nil)))) ax_nil))))
      (sx_one (sx_ret (ex_and (ex_cmp (op_eqM c) (fun _ _ _ _ z => z) (ex_slice c (ex_var 6) (ox_some ex_int) ox_none) (ex_tup (ax_cons ex_int (ax_cons ex_int (ax_cons (ex_var 12) ax_nil)))) rfl) (ex_one (ex_cmp (op_eqM c) (fun _ _ _ _ z => z) (ex_call c0 L.d109 (ax_cons (ex_var 4) ax_nil)) (ex_call c0 L.d109 (ax_cons (ex_var 7) ax_nil)) rfl))))))))))))))
-- _law_merges_right
abbrev N121 : List Str := ["_law_x", "_law_y", "_law_eight", "_law_deeds", "_law_machine", "_law_found", "_law_rest", "_law_care"]
theorem sc121 : FnScope N121 [] (defScope s121) := ⟨rfl, rfl, rfl, by decide +kernel, rfl, by decide +kernel, by decide +kernel⟩
def b121 (call : Nat → MF) : MS := (sSeq (sPar [0, 1, 2] (aCons (mTup (aCons (mC (.str [120])) aNil)) (aCons (mTup (aCons (mC (.str [121])) aNil)) (aCons (mSlice (mC (.tup [(.str [106, 111, 105, 110, 116]), (.str [112, 114, 117, 110, 101, 115]), (.str [110, 101, 115, 116, 115]), (.str [110, 97, 109, 101, 115]), (.str [115, 116, 97, 116, 101, 115]), (.str [109, 101, 114, 103, 101, 115]), (.str [99, 111, 118, 101, 114, 115]), (.str [115, 104, 97, 114, 101, 115]), (.str [104, 111, 108, 100, 115])])) none (some (mC (.int 8)))) aNil)))) (sSeq (sSet 3 (mLst (aCons (mTup (aCons (mC (.str [103, 111])) (aCons (mVar 0) (aCons (mC (.str [99])) aNil)))) (aCons (mTup (aCons (mC (.str [103, 111])) (aCons (mVar 1) (aCons (mC (.str [99])) aNil)))) (aCons (mTup (aCons (mC (.str [112, 117, 115, 104])) (aCons (mVar 0) aNil))) (aCons (mTup (aCons (mC (.str [98, 97, 99, 107])) aNil)) (aCons (mTup (aCons (mC (.str [100, 114, 111, 112])) (aCons (mVar 0) aNil))) aNil))))))) (sSeq (sAsg (gTupM 2 (gsCons (gSet 4) (gsCons (gSet 5) gsNil))) (mCallN 3 (call 118) (aCons (mCallN 1 (call 117) (aCons (mC (.int 2)) aNil)) (aCons (mVar 2) (aCons (mVar 3) aNil))))) (sSeq (sIf (tOrM (tV (mBin (dEq true) (mVar 5) (mBin dMul (mLst (aCons (mC .non) aNil)) (mC (.int 5))))) (tOrM (tV (mBin (dEq true) (mMethN 4 (fun _ => false) 1 (call 103) (mVar 4) aNil) (mTup (aCons (mC (.int 2)) (aCons (mC (.int 1)) aNil))))) (tV (mBin (dEq true) (mMethN 4 (fun _ => false) 1 (call 102) (mVar 4) aNil) (mTup (aCons (mC (.str [97])) (aCons (mC (.int 0)) (aCons (mTup (aCons (mTup (aCons (mC (.str [121])) (aCons (mTup (aCons (mC (.str [99])) (aCons (mC (.int 0)) (aCons (mTup aNil) aNil)))) aNil))) aNil)) aNil)))))))) (sRet (mC (.bl false))) sNil) (sSeq (sIf (tOrM (tV (mUn (dIsN true) (mMethN 4 (fun _ => false) 2 (call 98) (mVar 4) (aCons (mTup (aCons (mC (.str [114, 101, 111, 112, 101, 110])) aNil)) aNil)))) (tV (mBin (dEq true) (mMethN 4 (fun _ => false) 1 (call 102) (mVar 4) aNil) (mTup (aCons (mC (.str [97])) (aCons (mC (.int 0)) (aCons (mTup (aCons (mTup (aCons (mC (.str [120])) (aCons (mTup (aCons (mC (.str [98])) (aCons (mC (.int 0)) (aCons (mTup aNil) aNil)))) aNil))) (aCons (mTup (aCons (mC (.str [121])) (aCons (mTup (aCons (mC (.str [99])) (aCons (mC (.int 0)) (aCons (mTup aNil) aNil)))) aNil))) aNil))) aNil))))))) (sRet (mC (.bl false))) sNil) (sSeq (sSet 6 (mLc (iSeq (mVar 2)) (gSet 7) (tV (mBin (dEq true) (mVar 7) (mC (.str [110, 97, 109, 101, 115])))) (mVar 7) [7])) (sSeq (sSet 3 (mLst (aCons (mTup (aCons (mC (.str [103, 111])) (aCons (mVar 1) (aCons (mC (.str [99])) aNil)))) (aCons (mTup (aCons (mC (.str [100, 114, 111, 112])) (aCons (mVar 0) aNil))) (aCons (mTup (aCons (mC (.str [114, 101, 111, 112, 101, 110])) aNil)) aNil))))) (sSeq (sIf (tV (mBin (dEq true) (mBin dIx (mCallN 3 (call 118) (aCons (mCallN 1 (call 117) (aCons (mC (.int 2)) aNil)) (aCons (mVar 6) (aCons (mVar 3) aNil)))) (mC (.int 1))) (mLst (aCons (mC .non) (aCons (mC .non) (aCons (mTup (aCons (mC (.str [115, 104, 111, 119, 110])) (aCons (mVar 0) aNil))) aNil)))))) (sRet (mC (.bl false))) sNil) (sSeq (sIf (tV (mBin (dEq true) (mBin dIx (mCallN 3 (call 118) (aCons (mCallN 1 (call 117) (aCons (mC (.int 2)) aNil)) (aCons (mVar 2) (aCons (mVar 3) aNil)))) (mC (.int 1))) (mBin dMul (mLst (aCons (mC .non) aNil)) (mC (.int 3))))) (sRet (mC (.bl false))) sNil) (sSeq (sSet 3 (mLst (aCons (mTup (aCons (mC (.str [103, 111])) (aCons (mVar 0) (aCons (mC (.str [99])) aNil)))) (aCons (mTup (aCons (mC (.str [112, 117, 115, 104])) (aCons (mVar 0) aNil))) (aCons (mTup (aCons (mC (.str [98, 97, 99, 107])) aNil)) (aCons (mTup (aCons (mC (.str [100, 114, 111, 112])) (aCons (mVar 0) aNil))) (aCons (mTup (aCons (mC (.str [103, 111])) (aCons (mTup aNil) (aCons (mC (.str [99])) aNil)))) (aCons (mTup (aCons (mC (.str [98, 97, 99, 107])) aNil)) aNil)))))))) (sSeq (sAsg (gTupM 2 (gsCons (gSet 4) (gsCons (gSet 5) gsNil))) (mCallN 3 (call 118) (aCons (mCallN 1 (call 117) (aCons (mC (.int 2)) aNil)) (aCons (mVar 2) (aCons (mVar 3) aNil))))) (sRet (mAnd (mBin (dEq false) (mVar 5) (mBin dMul (mLst (aCons (mC .non) aNil)) (mC (.int 6)))) (mAnd (mBin (dEq false) (mMethN 4 (fun _ => false) 1 (call 103) (mVar 4) aNil) (mTup (aCons (mC (.int 2)) (aCons (mC (.int 0)) aNil)))) (mBin (dEq false) (mMethN 4 (fun _ => false) 1 (call 102) (mVar 4) aNil) (mTup (aCons (mC (.str [97])) (aCons (mC (.int 0)) (aCons (mTup (aCons (mTup (aCons (mC (.str [121])) (aCons (mTup (aCons (mC (.str [98])) (aCons (mC (.int 0)) (aCons (mTup aNil) aNil)))) aNil))) aNil)) aNil)))))))))))))))))))
theorem t121 {T : Tb} {n : Nat} {call : Nat → MF} (G : Gs T) (L : Lv T (6 * n) call) : DefAt T (6 * n + 6) ("_law_merges_right" : Str) 0 (mDef 0 8 (b121 call)) :=
  G.f121.at 0 8 sc121 rfl rfl fun f cdv A outer s H E c => have c0 : Cn T (6 * n) _ := c.mono (Nat.le_add_right _ 5); have hj : 6 * n + 1 ≤ 6 * n + 5 := Nat.add_le_add_left (by decide) _; (sx_cons (sx_par3 c 0 1 2 (ax_cons (ex_tup (ax_cons (ex_str [120]) ax_nil)) (ax_cons (ex_tup (ax_cons (ex_str [121]) ax_nil)) (ax_cons (ex_slice c (ex_gcon c G.g_ALL_CARES) ox_none (ox_some ex_int)) ax_nil))))
      (sx_cons (sx_set c 3 (ex_lst (ax_cons (ex_tup (ax_cons (ex_str [103, 111]) (ax_cons (ex_var 0) (ax_cons (ex_str [99]) ax_nil)))) (ax_cons (ex_tup (ax_cons (ex_str [103, 111]) (ax_cons (ex_var 1) (ax_cons (ex_str [99]) ax_nil)))) (ax_cons (ex_tup (ax_cons (ex_str [112, 117, 115, 104]) (ax_cons (ex_var 0) ax_nil))) (ax_cons (ex_tup (ax_cons (ex_str [98, 97, 99, 107]) ax_nil)) (ax_cons (ex_tup (ax_cons (ex_str [100, 114, 111, 112]) (ax_cons (ex_var 0) ax_nil))) ax_nil)))))))
      (sx_cons (sx_asg (ex_call c0 L.d118 (ax_cons (ex_call c0 L.d117 (ax_cons ex_int ax_nil)) (ax_cons (ex_var 2) (ax_cons (ex_var 3) ax_nil)))) (gx_tup c (gsx_cons (gx_name c 4) (gsx_cons (gx_name c 5) gsx_nil))))
      (sx_cons (sx_if (PW.pt (tx_or (tx_cmp (op_neM c) (fun _ _ _ _ z => z) (ex_var 5) (ex_op op_mulM (fun _ _ _ _ z => z) (ex_lst (ax_cons ex_non ax_nil)) ex_int) rfl) (tx_or (tx_cmp (op_neM c) (fun _ _ _ _ z => z) (ex_meth0 c0 L.d103 _ (fun f h _ => G.m_counts f h) (ex_var 4)) (ex_tup (ax_cons ex_int (ax_cons ex_int ax_nil))) rfl) (tx_or1 (tx_cmp (op_neM c) (fun _ _ _ _ z => z) (ex_meth0 c0 L.d102 _ (fun f h _ => G.m_shown f h) (ex_var 4)) (ex_tup (ax_cons (ex_str [97]) (ax_cons ex_int (ax_cons (ex_tup (ax_cons (ex_tup (ax_cons (ex_str [121]) (ax_cons (ex_tup (ax_cons (ex_str [99]) (ax_cons ex_int (ax_cons (ex_tup ax_nil) ax_nil)))) ax_nil))) ax_nil)) ax_nil)))) rfl))))) (sx_one (sx_ret ex_bl)) sx_nil)
      (sx_cons (sx_if (PW.pt (tx_or (tx_notN (ex_meth c0 L.d98 _ (fun f h _ => G.m_do f h) (ex_var 4) (ax_cons (ex_tup (ax_cons (ex_str [114, 101, 111, 112, 101, 110]) ax_nil)) ax_nil))) (tx_or1 (tx_cmp (op_neM c) (fun _ _ _ _ z => z) (ex_meth0 c0 L.d102 _ (fun f h _ => G.m_shown f h) (ex_var 4)) (ex_tup (ax_cons (ex_str [97]) (ax_cons ex_int (ax_cons (ex_tup (ax_cons (ex_tup (ax_cons (ex_str [120]) (ax_cons (ex_tup (ax_cons (ex_str [98]) (ax_cons ex_int (ax_cons (ex_tup ax_nil) ax_nil)))) ax_nil))) (ax_cons (ex_tup (ax_cons (ex_str [121]) (ax_cons (ex_tup (ax_cons (ex_str [99]) (ax_cons ex_int (ax_cons (ex_tup ax_nil) ax_nil)))) ax_nil))) ax_nil))) ax_nil)))) rfl)))) (sx_one (sx_ret ex_bl)) sx_nil)
      (sx_cons (by first | exact sx_setLc c [("_law_care", 7)] 6 (ix_seqM c (ex_var 2)) (blkOk_by (N := N121) (sc := defScope s121) (by decide +kernel)) (fun _ _ _ _ _ => (gx_name (Cn.blk c _ _ _ _ _) 7)) (fun _ _ _ _ _ => (tsx_one (tx_cmp (op_neM (Cn.blk c _ _ _ _ _)) (fun _ _ _ _ z => z) (ex_var 7) (ex_str [110, 97, 109, 101, 115]) rfl))) (fun _ _ _ _ _ => (ex_var 7)) (sw_true rfl rfl rfl (by decide +kernel)) | exact sx_set c 6 (ex_lc c [("_law_care", 7)] (ix_seqM c (ex_var 2)) (blkOk_by (N := N121) (sc := defScope s121) (by decide +kernel)) (fun _ _ _ _ _ => (gx_name (Cn.blk c _ _ _ _ _) 7)) (fun _ _ _ _ _ => (tsx_one (tx_cmp (op_neM (Cn.blk c _ _ _ _ _)) (fun _ _ _ _ z => z) (ex_var 7) (ex_str [110, 97, 109, 101, 115]) rfl))) (fun _ _ _ _ _ => (ex_var 7))))
      (sx_cons (sx_set c 3 (ex_lst (ax_cons (ex_tup (ax_cons (ex_str [103, 111]) (ax_cons (ex_var 1) (ax_cons (ex_str [99]) ax_nil)))) (ax_cons (ex_tup (ax_cons (ex_str [100, 114, 111, 112]) (ax_cons (ex_var 0) ax_nil))) (ax_cons (ex_tup (ax_cons (ex_str [114, 101, 111, 112, 101, 110]) ax_nil)) ax_nil)))))
      (sx_cons (sx_if (tx_cmp (op_neM c) (fun _ _ _ _ z => z) (ex_ix c (ex_call c0 L.d118 (ax_cons (ex_call c0 L.d117 (ax_cons ex_int ax_nil)) (ax_cons (ex_var 6) (ax_cons (ex_var 3) ax_nil)))) ex_int) (ex_lst (ax_cons ex_non (ax_cons ex_non (ax_cons (ex_tup (ax_cons (ex_str [115, 104, 111, 119, 110]) (ax_cons (ex_var 0) ax_nil))) ax_nil)))) rfl) (sx_one (sx_ret ex_bl)) sx_nil)
      (sx_cons (sx_if (tx_cmp (op_neM c) (fun _ _ _ _ z => z) (ex_ix c (ex_call c0 L.d118 (ax_cons (ex_call c0 L.d117 (ax_cons ex_int ax_nil)) (ax_cons (ex_var 2) (ax_cons (ex_var 3) ax_nil)))) ex_int) (ex_op op_mulM (fun _ _ _ _ z => z) (ex_lst (ax_cons ex_non ax_nil)) ex_int) rfl) (sx_one (sx_ret ex_bl)) sx_nil)
      (sx_cons (sx_set c 3 (ex_lst (ax_cons (ex_tup (ax_cons (ex_str [103, 111]) (ax_cons (ex_var 0) (ax_cons (ex_str [99]) ax_nil)))) (ax_cons (ex_tup (ax_cons (ex_str [112, 117, 115, 104]) (ax_cons (ex_var 0) ax_nil))) (ax_cons (ex_tup (ax_cons (ex_str [98, 97, 99, 107]) ax_nil)) (ax_cons (ex_tup (ax_cons (ex_str [100, 114, 111, 112]) (ax_cons (ex_var 0) ax_nil))) (ax_cons (ex_tup (ax_cons (ex_str [103, 111]) (ax_cons (ex_tup ax_nil) (ax_cons (ex_str [99]) ax_nil)))) (ax_cons (ex_tup (ax_cons (ex_str [98, 97, 99, 107]) ax_nil)) ax_nil))))))))
      (sx_cons (sx_asg (ex_call c0 L.d118 (ax_cons (ex_call c0 L.d117 (ax_cons ex_int ax_nil)) (ax_cons (ex_var 2) (ax_cons (ex_var 3) ax_nil)))) (gx_tup c (gsx_cons (gx_name c 4) (gsx_cons (gx_name c 5) gsx_nil))))
      (sx_one (sx_ret (ex_and (ex_cmp (op_eqM c) (fun _ _ _ _ z => z) (ex_var 5) (ex_op op_mulM (fun _ _ _ _ z => z) (ex_lst (ax_cons ex_non ax_nil)) ex_int) rfl) (ex_and (ex_cmp (op_eqM c) (fun _ _ _ _ z => z) (ex_meth0 c0 L.d103 _ (fun f h _ => G.m_counts f h) (ex_var 4)) (ex_tup (ax_cons ex_int (ax_cons ex_int ax_nil))) rfl) (ex_one (ex_cmp (op_eqM c) (fun _ _ _ _ z => z) (ex_meth0 c0 L.d102 _ (fun f h _ => G.m_shown f h) (ex_var 4)) (ex_tup (ax_cons (ex_str [97]) (ax_cons ex_int (ax_cons (ex_tup (ax_cons (ex_tup (ax_cons (ex_str [121]) (ax_cons (ex_tup (ax_cons (ex_str [98]) (ax_cons ex_int (ax_cons (ex_tup ax_nil) ax_nil)))) ax_nil))) ax_nil)) ax_nil)))) rfl)))))))))))))))))
-- law
abbrev N122 : List Str := ["_law_script"]
theorem sc122 : FnScope N122 ["_law_script"] (defScope s122) := ⟨rfl, rfl, rfl, by decide +kernel, rfl, by decide +kernel, by decide +kernel⟩
def b122 (call : Nat → MF) : MS := (sRet (mAnd (mCallN 0 (call 119) aNil) (mAnd (mCallN 0 (call 120) aNil) (mCallN 0 (call 121) aNil))))
theorem law_fn {T : Tb} {n : Nat} {call : Nat → MF} (G : Gs T) (L : Lv T (6 * n) call) {f : Addr} {fd : FuncData} (F : L2.Fun T.K dq122.name dq122.qual dq122.st f fd) : FnOk T.P T.w T.K T.mg T.base CX0 (6 * n + 6) f fd ["_law_script"] (spM T 1 (mDef 1 0 (b122 call))) :=
  def_ok 1 0 F sc122 rfl rfl fun cdv A outer s H E c => have c0 : Cn T (6 * n) _ := c.mono (Nat.le_add_right _ 5); have hj : 6 * n + 1 ≤ 6 * n + 5 := Nat.add_le_add_left (by decide) _; (sx_one (sx_ret (ex_and (ex_call0 c0 L.d119) (ex_and (ex_call0 c0 L.d120) (ex_one (ex_call0 c0 L.d121))))))
theorem kw0 {T : Tb} {fd : FuncData} {kws : List (Str × V)} (F : FunQ T.K dq89 fd kws) : KwQ T fd ["self", "site", "cares"] 2 ["cares"] wh0 := by
  obtain ⟨F0, hn, hv⟩ := F
  obtain ⟨vs, rfl, hl⟩ := zip_of_names hn
  match vs, hl with
  | [v0], _ =>
    obtain ⟨mv, kb⟩ := F0.kbinds0 (ps := ["self", "site", "cares"]) 2 ["cares"] [] (fun us mv ws => us ++ (((ws.drop 0).take 1))) (by simp [dq89]) (by simp [dq89]) (fun r1 r2 r3 => r1.append (((r3.drop 0).take 1))) (fun D doc pm an cdv ct us mv ws l1 l2 l3 => match us, mv, ws, l1, l2, l3 with
      | [u0, u1], [], [w0], _, _, _ => rfl)
    refine ⟨_, _, kb, fun ρ H ds es vs zs xs l1 l2 r1 r2 e => ?_⟩
    match ds, l1, es, l2 with
    | [d0, d1], _, [e0], _ =>
      cases e
      obtain ⟨xv0, _, rfl, xh0, ⟨xv1, _, rfl, xh1, rfl⟩⟩ := r1
      obtain ⟨yv0, _, rfl, yh0, rfl⟩ := r2
      have hv1 : VRs T ρ H (dq89.kwd.map fun x => x.2) [v0] := hv T rfl ρ H
      obtain ⟨_, _, ze0, zh0, hv2⟩ := hv1
      cases ze0
      exact ⟨_, _, rfl, xh0, ⟨_, _, rfl, xh1, ⟨_, _, rfl, yh0, rfl⟩⟩⟩
theorem kw1 {T : Tb} {fd : FuncData} {kws : List (Str × V)} (F : FunQ T.K dq32 fd kws) : KwQ T fd ["self", "frames", "links", "home", "cap", "pushes", "drops", "clears", "reopens"] 4 ["cap"] wh1 := by
  obtain ⟨F0, hn, hv⟩ := F
  obtain ⟨vs, rfl, hl⟩ := zip_of_names hn
  match vs, hl with
  | [v0, v1, v2, v3, v4], _ =>
    obtain ⟨mv, kb⟩ := F0.kbinds0 (ps := ["self", "frames", "links", "home", "cap", "pushes", "drops", "clears", "reopens"]) 4 ["cap"] [("pushes", v1), ("drops", v2), ("clears", v3), ("reopens", v4)] (fun us mv ws => us ++ (((ws.drop 0).take 1) ++ (((mv.drop 0).take 1) ++ (((mv.drop 1).take 1) ++ (((mv.drop 2).take 1) ++ (((mv.drop 3).take 1))))))) (by simp [dq32]) (by simp [dq32]) (fun r1 r2 r3 => r1.append (((r3.drop 0).take 1).append (((r2.drop 0).take 1).append (((r2.drop 1).take 1).append (((r2.drop 2).take 1).append (((r2.drop 3).take 1))))))) (fun D doc pm an cdv ct us mv ws l1 l2 l3 => match us, mv, ws, l1, l2, l3 with
      | [u0, u1, u2, u3], [m0, m1, m2, m3], [w0], _, _, _ => ⟨_, _, _, _, _, _, rfl, rfl, ⟨_, _, _, _, _, _, rfl, rfl, ⟨_, _, _, _, _, _, rfl, rfl, ⟨_, _, _, _, _, _, rfl, rfl, rfl⟩⟩⟩⟩)
    refine ⟨_, _, kb, fun ρ H ds es vs zs xs l1 l2 r1 r2 e => ?_⟩
    match ds, l1, es, l2 with
    | [d0, d1, d2, d3], _, [e0], _ =>
      cases e
      obtain ⟨xv0, _, rfl, xh0, ⟨xv1, _, rfl, xh1, ⟨xv2, _, rfl, xh2, ⟨xv3, _, rfl, xh3, rfl⟩⟩⟩⟩ := r1
      obtain ⟨yv0, _, rfl, yh0, rfl⟩ := r2
      have hv1 : VRs T ρ H (dq32.kwd.map fun x => x.2) [v0, v1, v2, v3, v4] := hv T rfl ρ H
      obtain ⟨_, _, ze0, zh0, hv2⟩ := hv1
      cases ze0
      obtain ⟨_, _, ze1, zh1, hv3⟩ := hv2
      cases ze1
      obtain ⟨_, _, ze2, zh2, hv4⟩ := hv3
      cases ze2
      obtain ⟨_, _, ze3, zh3, hv5⟩ := hv4
      cases ze3
      obtain ⟨_, _, ze4, zh4, hv6⟩ := hv5
      cases ze4
      exact ⟨_, _, rfl, xh0, ⟨_, _, rfl, xh1, ⟨_, _, rfl, xh2, ⟨_, _, rfl, xh3, ⟨_, _, rfl, yh0, ⟨_, _, rfl, zh1, ⟨_, _, rfl, zh2, ⟨_, _, rfl, zh3, ⟨_, _, rfl, zh4, rfl⟩⟩⟩⟩⟩⟩⟩⟩⟩
theorem kw2 {T : Tb} {fd : FuncData} {kws : List (Str × V)} (F : FunQ T.K dq32 fd kws) : KwQ T fd ["self", "frames", "links", "home", "cap", "pushes", "drops", "clears", "reopens"] 4 ["cap", "clears", "drops"] wh2 := by
  obtain ⟨F0, hn, hv⟩ := F
  obtain ⟨vs, rfl, hl⟩ := zip_of_names hn
  match vs, hl with
  | [v0, v1, v2, v3, v4], _ =>
    obtain ⟨mv, kb⟩ := F0.kbinds0 (ps := ["self", "frames", "links", "home", "cap", "pushes", "drops", "clears", "reopens"]) 4 ["cap", "clears", "drops"] [("pushes", v1), ("reopens", v4)] (fun us mv ws => us ++ (((ws.drop 0).take 1) ++ (((mv.drop 0).take 1) ++ (((ws.drop 2).take 1) ++ (((ws.drop 1).take 1) ++ (((mv.drop 1).take 1))))))) (by simp [dq32]) (by simp [dq32]) (fun r1 r2 r3 => r1.append (((r3.drop 0).take 1).append (((r2.drop 0).take 1).append (((r3.drop 2).take 1).append (((r3.drop 1).take 1).append (((r2.drop 1).take 1))))))) (fun D doc pm an cdv ct us mv ws l1 l2 l3 => match us, mv, ws, l1, l2, l3 with
      | [u0, u1, u2, u3], [m0, m1], [w0, w1, w2], _, _, _ => ⟨_, _, _, _, _, _, rfl, rfl, ⟨_, _, _, _, _, _, rfl, rfl, rfl⟩⟩)
    refine ⟨_, _, kb, fun ρ H ds es vs zs xs l1 l2 r1 r2 e => ?_⟩
    match ds, l1, es, l2 with
    | [d0, d1, d2, d3], _, [e0, e1, e2], _ =>
      cases e
      obtain ⟨xv0, _, rfl, xh0, ⟨xv1, _, rfl, xh1, ⟨xv2, _, rfl, xh2, ⟨xv3, _, rfl, xh3, rfl⟩⟩⟩⟩ := r1
      obtain ⟨yv0, _, rfl, yh0, ⟨yv1, _, rfl, yh1, ⟨yv2, _, rfl, yh2, rfl⟩⟩⟩ := r2
      have hv1 : VRs T ρ H (dq32.kwd.map fun x => x.2) [v0, v1, v2, v3, v4] := hv T rfl ρ H
      obtain ⟨_, _, ze0, zh0, hv2⟩ := hv1
      cases ze0
      obtain ⟨_, _, ze1, zh1, hv3⟩ := hv2
      cases ze1
      obtain ⟨_, _, ze2, zh2, hv4⟩ := hv3
      cases ze2
      obtain ⟨_, _, ze3, zh3, hv5⟩ := hv4
      cases ze3
      obtain ⟨_, _, ze4, zh4, hv6⟩ := hv5
      cases ze4
      exact ⟨_, _, rfl, xh0, ⟨_, _, rfl, xh1, ⟨_, _, rfl, xh2, ⟨_, _, rfl, xh3, ⟨_, _, rfl, yh0, ⟨_, _, rfl, zh1, ⟨_, _, rfl, yh2, ⟨_, _, rfl, yh1, ⟨_, _, rfl, zh4, rfl⟩⟩⟩⟩⟩⟩⟩⟩⟩
theorem kw3 {T : Tb} {fd : FuncData} {kws : List (Str × V)} (F : FunQ T.K dq32 fd kws) : KwQ T fd ["self", "frames", "links", "home", "cap", "pushes", "drops", "clears", "reopens"] 4 ["cap", "drops", "reopens", "pushes"] wh3 := by
  obtain ⟨F0, hn, hv⟩ := F
  obtain ⟨vs, rfl, hl⟩ := zip_of_names hn
  match vs, hl with
  | [v0, v1, v2, v3, v4], _ =>
    obtain ⟨mv, kb⟩ := F0.kbinds0 (ps := ["self", "frames", "links", "home", "cap", "pushes", "drops", "clears", "reopens"]) 4 ["cap", "drops", "reopens", "pushes"] [("clears", v3)] (fun us mv ws => us ++ (((ws.drop 0).take 1) ++ (((ws.drop 3).take 1) ++ (((ws.drop 1).take 1) ++ (((mv.drop 0).take 1) ++ (((ws.drop 2).take 1))))))) (by simp [dq32]) (by simp [dq32]) (fun r1 r2 r3 => r1.append (((r3.drop 0).take 1).append (((r3.drop 3).take 1).append (((r3.drop 1).take 1).append (((r2.drop 0).take 1).append (((r3.drop 2).take 1))))))) (fun D doc pm an cdv ct us mv ws l1 l2 l3 => match us, mv, ws, l1, l2, l3 with
      | [u0, u1, u2, u3], [m0], [w0, w1, w2, w3], _, _, _ => ⟨_, _, _, _, _, _, rfl, rfl, rfl⟩)
    refine ⟨_, _, kb, fun ρ H ds es vs zs xs l1 l2 r1 r2 e => ?_⟩
    match ds, l1, es, l2 with
    | [d0, d1, d2, d3], _, [e0, e1, e2, e3], _ =>
      cases e
      obtain ⟨xv0, _, rfl, xh0, ⟨xv1, _, rfl, xh1, ⟨xv2, _, rfl, xh2, ⟨xv3, _, rfl, xh3, rfl⟩⟩⟩⟩ := r1
      obtain ⟨yv0, _, rfl, yh0, ⟨yv1, _, rfl, yh1, ⟨yv2, _, rfl, yh2, ⟨yv3, _, rfl, yh3, rfl⟩⟩⟩⟩ := r2
      have hv1 : VRs T ρ H (dq32.kwd.map fun x => x.2) [v0, v1, v2, v3, v4] := hv T rfl ρ H
      obtain ⟨_, _, ze0, zh0, hv2⟩ := hv1
      cases ze0
      obtain ⟨_, _, ze1, zh1, hv3⟩ := hv2
      cases ze1
      obtain ⟨_, _, ze2, zh2, hv4⟩ := hv3
      cases ze2
      obtain ⟨_, _, ze3, zh3, hv5⟩ := hv4
      cases ze3
      obtain ⟨_, _, ze4, zh4, hv6⟩ := hv5
      cases ze4
      exact ⟨_, _, rfl, xh0, ⟨_, _, rfl, xh1, ⟨_, _, rfl, xh2, ⟨_, _, rfl, xh3, ⟨_, _, rfl, yh0, ⟨_, _, rfl, yh3, ⟨_, _, rfl, yh1, ⟨_, _, rfl, zh3, ⟨_, _, rfl, yh2, rfl⟩⟩⟩⟩⟩⟩⟩⟩⟩
def stepT (call : Nat → MF) (k : Nat) : MF := cond (Nat.blt k 61) (cond (Nat.blt k 30) (cond (Nat.blt k 15) (cond (Nat.blt k 7) (cond (Nat.blt k 3) (cond (Nat.blt k 1) (badF) (cond (Nat.blt k 2) (mDef 2 2 (b1 call)) (mDef 2 5 (b2 call)))) (cond (Nat.blt k 5) (cond (Nat.blt k 4) (mDef 3 3 (b3 call)) (mDef 2 1 (b4 call))) (cond (Nat.blt k 6) (mDef 2 3 (b5 call)) (mDef 2 3 (b6 call))))) (cond (Nat.blt k 11) (cond (Nat.blt k 9) (cond (Nat.blt k 8) (mDef 2 1 (b7 call)) (mDef 6 0 (b8 call))) (cond (Nat.blt k 10) (mDef 2 2 (b9 call)) (mDef 2 1 (b10 call)))) (cond (Nat.blt k 13) (cond (Nat.blt k 12) (mDef 1 0 (b11 call)) (mDef 2 7 (b12 call))) (cond (Nat.blt k 14) (mDef 2 6 (b13 call)) (mDef 3 8 (b14 call)))))) (cond (Nat.blt k 22) (cond (Nat.blt k 18) (cond (Nat.blt k 16) (mDef 2 0 (b15 call)) (cond (Nat.blt k 17) (mDef 2 1 (b16 call)) (mDef 3 5 (b17 call)))) (cond (Nat.blt k 20) (cond (Nat.blt k 19) (mDef 2 3 (b18 call)) (mDef 4 1 (b19 call))) (cond (Nat.blt k 21) (mDef 1 2 (b20 call)) (mDef 2 7 (b21 call))))) (cond (Nat.blt k 26) (cond (Nat.blt k 24) (cond (Nat.blt k 23) (mDef 1 5 (b22 call)) (mDef 2 4 (b23 call))) (cond (Nat.blt k 25) (badF) (mDef 1 3 (b25 call)))) (cond (Nat.blt k 28) (cond (Nat.blt k 27) (mDef 1 2 (b26 call)) (mDef 3 3 (b27 call))) (cond (Nat.blt k 29) (mDef 2 4 (b28 call)) (mDef 2 0 (b29 call))))))) (cond (Nat.blt k 45) (cond (Nat.blt k 37) (cond (Nat.blt k 33) (cond (Nat.blt k 31) (mDef 2 5 (b30 call)) (cond (Nat.blt k 32) (mDef 3 7 (b31 call)) (mDef 9 4 (b32 call)))) (cond (Nat.blt k 35) (cond (Nat.blt k 34) (mDef 1 0 (b33 call)) (mDef 1 0 (b34 call))) (cond (Nat.blt k 36) (mDef 1 0 (b35 call)) (mDef 1 0 (b36 call))))) (cond (Nat.blt k 41) (cond (Nat.blt k 39) (cond (Nat.blt k 38) (mDef 1 0 (b37 call)) (mDef 1 0 (b38 call))) (cond (Nat.blt k 40) (mDef 1 0 (b39 call)) (mDef 1 0 (b40 call)))) (cond (Nat.blt k 43) (cond (Nat.blt k 42) (mDef 2 0 (b41 call)) (mDef 1 0 (b42 call))) (cond (Nat.blt k 44) (mDef 1 0 (b43 call)) (mDef 2 0 (b44 call)))))) (cond (Nat.blt k 53) (cond (Nat.blt k 49) (cond (Nat.blt k 47) (cond (Nat.blt k 46) (mDef 2 0 (b45 call)) (mDef 2 0 (b46 call))) (cond (Nat.blt k 48) (mDef 2 0 (b47 call)) (mDef 1 1 (b48 call)))) (cond (Nat.blt k 51) (cond (Nat.blt k 50) (mDef 2 0 (b49 call)) (mDef 1 1 (b50 call))) (cond (Nat.blt k 52) (mDef 2 1 (b51 call)) (mDef 2 0 (b52 call))))) (cond (Nat.blt k 57) (cond (Nat.blt k 55) (cond (Nat.blt k 54) (mDef 1 8 (b53 call)) (mDef 2 1 (b54 call))) (cond (Nat.blt k 56) (mDef 2 1 (b55 call)) (mDef 1 0 (b56 call)))) (cond (Nat.blt k 59) (cond (Nat.blt k 58) (mDef 1 2 (b57 call)) (mDef 2 2 (b58 call))) (cond (Nat.blt k 60) (mDef 1 0 (b59 call)) (mDef 1 1 (b60 call)))))))) (cond (Nat.blt k 92) (cond (Nat.blt k 76) (cond (Nat.blt k 68) (cond (Nat.blt k 64) (cond (Nat.blt k 62) (mDef 2 2 (b61 call)) (cond (Nat.blt k 63) (mDef 2 0 (b62 call)) (mDef 1 0 (b63 call)))) (cond (Nat.blt k 66) (cond (Nat.blt k 65) (mDef 3 5 (b64 call)) (mDef 2 4 (b65 call))) (cond (Nat.blt k 67) (mDef 3 8 (b66 call)) (mDef 3 7 (b67 call))))) (cond (Nat.blt k 72) (cond (Nat.blt k 70) (cond (Nat.blt k 69) (mDef 1 6 (b68 call)) (mDef 1 3 (b69 call))) (cond (Nat.blt k 71) (mDef 2 6 (b70 call)) (mDef 4 0 (b71 call)))) (cond (Nat.blt k 74) (cond (Nat.blt k 73) (mDef 2 7 (b72 call)) (mDef 2 0 (b73 call))) (cond (Nat.blt k 75) (mDef 4 3 (b74 call)) (mDef 4 2 (b75 call)))))) (cond (Nat.blt k 84) (cond (Nat.blt k 80) (cond (Nat.blt k 78) (cond (Nat.blt k 77) (mDef 1 2 (b76 call)) (mDef 5 0 (b77 call))) (cond (Nat.blt k 79) (mDef 1 0 (b78 call)) (badF))) (cond (Nat.blt k 82) (cond (Nat.blt k 81) (mDef 2 3 (b80 call)) (mDef 2 7 (b81 call))) (cond (Nat.blt k 83) (mDef 3 0 (b82 call)) (mDef 2 0 (b83 call))))) (cond (Nat.blt k 88) (cond (Nat.blt k 86) (cond (Nat.blt k 85) (mDef 4 1 (b84 call)) (mDef 2 6 (b85 call))) (cond (Nat.blt k 87) (mDef 2 3 (b86 call)) (mDef 1 2 (b87 call)))) (cond (Nat.blt k 90) (cond (Nat.blt k 89) (mDef 2 1 (b88 call)) (mDef 3 0 (b89 call))) (cond (Nat.blt k 91) (mDef 1 0 (b90 call)) (mDef 1 0 (b91 call))))))) (cond (Nat.blt k 107) (cond (Nat.blt k 99) (cond (Nat.blt k 95) (cond (Nat.blt k 93) (mDef 1 0 (b92 call)) (cond (Nat.blt k 94) (mDef 1 0 (b93 call)) (mDef 1 0 (b94 call)))) (cond (Nat.blt k 97) (cond (Nat.blt k 96) (mDef 1 0 (b95 call)) (mDef 2 1 (b96 call))) (cond (Nat.blt k 98) (mDef 1 0 (b97 call)) (mDef 2 0 (b98 call))))) (cond (Nat.blt k 103) (cond (Nat.blt k 101) (cond (Nat.blt k 100) (mDef 2 0 (b99 call)) (badF)) (cond (Nat.blt k 102) (mDef 1 1 (b101 call)) (mDef 1 0 (b102 call)))) (cond (Nat.blt k 105) (cond (Nat.blt k 104) (mDef 1 0 (b103 call)) (mDef 2 1 (b104 call))) (cond (Nat.blt k 106) (mDef 3 9 (b105 call)) (mDef 1 3 (b106 call)))))) (cond (Nat.blt k 115) (cond (Nat.blt k 111) (cond (Nat.blt k 109) (cond (Nat.blt k 108) (mDef 2 5 (b107 call)) (mDef 2 7 (b108 call))) (cond (Nat.blt k 110) (mDef 1 0 (b109 call)) (mDef 3 8 (b110 call)))) (cond (Nat.blt k 113) (cond (Nat.blt k 112) (mDef 1 0 (b111 call)) (mDef 2 4 (b112 call))) (cond (Nat.blt k 114) (mDef 3 4 (b113 call)) (mDef 3 5 (b114 call))))) (cond (Nat.blt k 119) (cond (Nat.blt k 117) (cond (Nat.blt k 116) (mDef 2 4 (b115 call)) (mDef 2 6 (b116 call))) (cond (Nat.blt k 118) (mDef 1 1 (b117 call)) (mDef 3 2 (b118 call)))) (cond (Nat.blt k 121) (cond (Nat.blt k 120) (mDef 0 7 (b119 call)) (mDef 0 13 (b120 call))) (cond (Nat.blt k 122) (mDef 0 8 (b121 call)) (badF)))))))
def prog (n : Nat) : Nat → MF := Nat.rec (motive := fun _ => Nat → MF) (fun _ => badF) (fun _ p => stepT p) n
theorem lv : ∀ (n : Nat) (T : Tb), Gs T → Lv T (6 * n) (prog n)
  | 0, T, G => {
    d0 := G.f0.bad 1
    d1 := G.f1.bad 2
    d2 := G.f2.bad 2
    d3 := G.f3.bad 3
    d4 := G.f4.bad 2
    d5 := G.f5.bad 2
    d6 := G.f6.bad 2
    d7 := G.f7.bad 2
    d8 := G.f8.bad 6
    d9 := G.f9.bad 2
    d10 := G.f10.bad 2
    d11 := G.f11.bad 1
    d12 := G.f12.bad 2
    d13 := G.f13.bad 2
    d14 := G.f14.bad 3
    d15 := G.f15.bad 2
    d16 := G.f16.bad 2
    d17 := G.f17.bad 3
    d18 := G.f18.bad 2
    d19 := G.f19.bad 4
    d20 := G.f20.bad 1
    d21 := G.f21.bad 2
    d22 := G.f22.bad 1
    d23 := G.f23.bad 2
    d25 := G.f25.bad 1
    d26 := G.f26.bad 1
    d27 := G.f27.bad 3
    d28 := G.f28.bad 2
    d29 := G.f29.bad 2
    d30 := G.f30.bad 2
    d31 := G.f31.bad 3
    d33 := G.f33.bad
    d34 := G.f34.bad
    d35 := G.f35.bad
    d36 := G.f36.bad
    d37 := G.f37.bad
    d38 := G.f38.bad
    d39 := G.f39.bad
    d40 := G.f40.bad
    d41 := G.f41.bad 2
    d42 := G.f42.bad 1
    d43 := G.f43.bad 1
    d44 := G.f44.bad 2
    d45 := G.f45.bad 2
    d46 := G.f46.bad 2
    d47 := G.f47.bad 2
    d48 := G.f48.bad 1
    d49 := G.f49.bad 2
    d50 := G.f50.bad 1
    d51 := G.f51.bad 2
    d52 := G.f52.bad 2
    d53 := G.f53.bad 1
    d54 := G.f54.bad 2
    d55 := G.f55.bad 2
    d56 := G.f56.bad 1
    d57 := G.f57.bad 1
    d58 := G.f58.bad 2
    d59 := G.f59.bad 1
    d60 := G.f60.bad 1
    d61 := G.f61.bad 2
    d62 := G.f62.bad 2
    d63 := G.f63.bad 1
    d64 := G.f64.bad 3
    d65 := G.f65.bad 2
    d66 := G.f66.bad 3
    d67 := G.f67.bad 3
    d68 := G.f68.bad 1
    d69 := G.f69.bad 1
    d70 := G.f70.bad 2
    d71 := G.f71.bad 4
    d72 := G.f72.bad 2
    d73 := G.f73.bad 2
    d74 := G.f74.bad 4
    d75 := G.f75.bad 4
    d76 := G.f76.bad 1
    d77 := G.f77.bad 5
    d78 := G.f78.bad 1
    d79 := G.f79.bad 1
    d80 := G.f80.bad 2
    d81 := G.f81.bad 2
    d82 := G.f82.bad 3
    d83 := G.f83.bad 2
    d84 := G.f84.bad 4
    d85 := G.f85.bad 2
    d86 := G.f86.bad 2
    d87 := G.f87.bad 1
    d88 := G.f88.bad 2
    d90 := G.f90.bad
    d91 := G.f91.bad
    d92 := G.f92.bad
    d93 := G.f93.bad
    d94 := G.f94.bad
    d95 := G.f95.bad 1
    d96 := G.f96.bad 2
    d97 := G.f97.bad 1
    d98 := G.f98.bad 2
    d99 := G.f99.bad 2
    d100 := G.f100.bad 1
    d101 := G.f101.bad 1
    d102 := G.f102.bad 1
    d103 := G.f103.bad 1
    d104 := G.f104.bad 2
    d105 := G.f105.bad 3
    d106 := G.f106.bad 1
    d107 := G.f107.bad 2
    d108 := G.f108.bad 2
    d109 := G.f109.bad 1
    d110 := G.f110.bad 3
    d111 := G.f111.bad 1
    d112 := G.f112.bad 2
    d113 := G.f113.bad 3
    d114 := G.f114.bad 3
    d115 := G.f115.bad 2
    d116 := G.f116.bad 2
    d117 := G.f117.bad 1
    d118 := G.f118.bad 3
    d119 := G.f119.bad 0
    d120 := G.f120.bad 0
    d121 := G.f121.bad 0
    k0 := G.f89.at (fun _ _ F => kw0 F) fun _ _ _ => fn_bad
    k1 := G.f32.at (fun _ _ F => kw1 F) fun _ _ _ => fn_bad
    k2 := G.f32.at (fun _ _ F => kw2 F) fun _ _ _ => fn_bad
    k3 := G.f32.at (fun _ _ F => kw3 F) fun _ _ _ => fn_bad
  }
  | n + 1, T, G => have L := lv n T G; have LL : LLv T (6 * n) (prog n) := fun b a cd cv ac aq up => lv n _ (G.reb up); {
    d0 := G.f0.bad 1
    d1 := t1 G L
    d2 := t2 G L
    d3 := t3 G L
    d4 := t4 G L
    d5 := t5 G L
    d6 := t6 G L
    d7 := t7 G L
    d8 := t8 G L
    d9 := t9 G L
    d10 := t10 G L
    d11 := t11 G L
    d12 := t12 G L
    d13 := t13 G L
    d14 := t14 G L
    d15 := t15 G L
    d16 := t16 G L
    d17 := t17 G L
    d18 := t18 G L
    d19 := t19 G L LL
    d20 := t20 G L LL
    d21 := t21 G L
    d22 := t22 G L LL
    d23 := t23 G L LL
    d25 := t25 G L
    d26 := t26 G L
    d27 := t27 G L
    d28 := t28 G L
    d29 := t29 G L
    d30 := t30 G L
    d31 := t31 G L
    d33 := t33 G L
    d34 := t34 G L
    d35 := t35 G L
    d36 := t36 G L
    d37 := t37 G L
    d38 := t38 G L
    d39 := t39 G L
    d40 := t40 G L
    d41 := t41 G L
    d42 := t42 G L
    d43 := t43 G L
    d44 := t44 G L
    d45 := t45 G L
    d46 := t46 G L
    d47 := t47 G L
    d48 := t48 G L
    d49 := t49 G L
    d50 := t50 G L
    d51 := t51 G L
    d52 := t52 G L
    d53 := t53 G L
    d54 := t54 G L
    d55 := t55 G L
    d56 := t56 G L
    d57 := t57 G L
    d58 := t58 G L
    d59 := t59 G L
    d60 := t60 G L
    d61 := t61 G L
    d62 := t62 G L
    d63 := t63 G L
    d64 := t64 G L
    d65 := t65 G L
    d66 := t66 G L
    d67 := t67 G L
    d68 := t68 G L
    d69 := t69 G L
    d70 := t70 G L
    d71 := t71 G L
    d72 := t72 G L
    d73 := t73 G L
    d74 := t74 G L
    d75 := t75 G L
    d76 := t76 G L
    d77 := t77 G L
    d78 := t78 G L
    d79 := G.f79.bad 1
    d80 := t80 G L
    d81 := t81 G L
    d82 := t82 G L
    d83 := t83 G L
    d84 := t84 G L
    d85 := t85 G L
    d86 := t86 G L
    d87 := t87 G L
    d88 := t88 G L
    d90 := t90 G L
    d91 := t91 G L
    d92 := t92 G L
    d93 := t93 G L
    d94 := t94 G L
    d95 := t95 G L
    d96 := t96 G L
    d97 := t97 G L
    d98 := t98 G L
    d99 := t99 G L
    d100 := G.f100.bad 1
    d101 := t101 G L
    d102 := t102 G L
    d103 := t103 G L
    d104 := t104 G L
    d105 := t105 G L
    d106 := t106 G L
    d107 := t107 G L
    d108 := t108 G L
    d109 := t109 G L
    d110 := t110 G L
    d111 := t111 G L
    d112 := t112 G L
    d113 := t113 G L
    d114 := t114 G L
    d115 := t115 G L
    d116 := t116 G L
    d117 := t117 G L
    d118 := t118 G L
    d119 := t119 G L
    d120 := t120 G L
    d121 := t121 G L
    k0 := G.f89.at (fun _ _ F => kw0 F) fun _ _ F => t89 G L F
    k1 := G.f32.at (fun _ _ F => kw1 F) fun _ _ F => t32 G L F
    k2 := G.f32.at (fun _ _ F => kw2 F) fun _ _ F => t32 G L F
    k3 := G.f32.at (fun _ _ F => kw3 F) fun _ _ F => t32 G L F
  }
def clsN : List Str := ["Browser", "Site", "Renewal", "Record", "Machine"]
def fldN : List Str := ["record", "browser", "_site", "_cares", "frame", "documents", "_fresh", "now", "last", "first", "part", "_frames", "_links", "_home", "_cap", "_pushes", "_drops", "_clears", "_reopens", "_depths", "_names", "_staying", "_numbers", "_added", "fresh", "trees", "current", "_past", "_failure"]
def nm0 : List PySem.Str := ["_wall", "shown_entry", "pruned", "cut_off", "shifted_step", "shifted", "without_states", "first_browser", "Browser", "FrameError", "BadSite", "BadCares", "BadDeed", "NotPossible", "BadStep", "BadMachine", "ALL_CARES", "Site", "_require", "_is_name", "_is_key", "_are_frames", "_are_pairs", "_is_pair", "_is_shallow", "_are_links", "_are_addresses", "_is_cap", "_plain_pairs", "_depth"]
def nm1 : List PySem.Str := ["check_site", "ordered_cares", "is_path", "is_address", "_is_care", "loaded_tree", "tree_at", "replaced", "without_frame", "seen_tree", "numbers_of", "places_of", "Renewal", "first_record", "Record", "_place_order", "PLAIN_WORDS", "is_deed", "Machine", "difference", "_first_difference", "spot_of", "record_at", "_plain_tree", "state", "machine_at", "check_machine", "state_of", "_plain_frame", "_plain_document"]
def nm2 : List PySem.Str := ["_entries_of", "_number_of", "_law_site", "_law_after", "_law_last_entry_right", "_law_saved_right", "_law_merges_right"]
def names : List PySem.Str := nm0 ++ nm1 ++ nm2
def fa0 : List Fq := [.he (.free "all"),
  .he (.free "bool"),
  .he (.free "dict"),
  .he (.free "enumerate"),
  .he (.free "int"),
  .he (.free "isinstance"),
  .he (.free "len"),
  .he (.free "list"),
  .he (.free "max"),
  .he (.free "range"),
  .he (.free "set"),
  .he (.free "sorted"),
  .he (.free "str"),
  .he (.free "tuple"),
  .he (.free "zip"),
  .he (.glo "Browser"),
  .he (.glo "Site"),
  .he (.glo "Renewal"),
  .he (.glo "Record"),
  .he (.glo "Machine"),
  .con "ALL_CARES" (.tup [(.str [106, 111, 105, 110, 116]), (.str [112, 114, 117, 110, 101, 115]), (.str [110, 101, 115, 116, 115]), (.str [110, 97, 109, 101, 115]), (.str [115, 116, 97, 116, 101, 115]), (.str [109, 101, 114, 103, 101, 115]), (.str [99, 111, 118, 101, 114, 115]), (.str [115, 104, 97, 114, 101, 115]), (.str [104, 111, 108, 100, 115])]),
  .con "PLAIN_WORDS" (.tup [(.str [98, 97, 99, 107]), (.str [110, 101, 120, 116]), (.str [99, 108, 101, 97, 114]), (.str [114, 101, 111, 112, 101, 110])]),
  .he (.mkr "Browser"),
  .he (.mkr "Site"),
  .he (.mkr "Renewal")]
def fa1 : List Fq := [.he (.mkr "Record"),
  .he (.mkr "Machine")]
def fa : List Fq := fa0 ++ fa1
def fn0 : List DefQ := [dq0, dq1, dq2, dq3, dq4, dq5, dq6, dq7, dq8, dq9, dq10, dq11, dq12, dq13, dq14, dq15, dq16, dq17, dq18, dq19, dq20, dq21, dq22, dq23, dq24]
def fn1 : List DefQ := [dq25, dq26, dq27, dq28, dq29, dq30, dq31, dq32, dq33, dq34, dq35, dq36, dq37, dq38, dq39, dq40, dq41, dq42, dq43, dq44, dq45, dq46, dq47, dq48, dq49]
def fn2 : List DefQ := [dq50, dq51, dq52, dq53, dq54, dq55, dq56, dq57, dq58, dq59, dq60, dq61, dq62, dq63, dq64, dq65, dq66, dq67, dq68, dq69, dq70, dq71, dq72, dq73, dq74]
def fn3 : List DefQ := [dq75, dq76, dq77, dq78, dq79, dq80, dq81, dq82, dq83, dq84, dq85, dq86, dq87, dq88, dq89, dq90, dq91, dq92, dq93, dq94, dq95, dq96, dq97, dq98, dq99]
def fn4 : List DefQ := [dq100, dq101, dq102, dq103, dq104, dq105, dq106, dq107, dq108, dq109, dq110, dq111, dq112, dq113, dq114, dq115, dq116, dq117, dq118, dq119, dq120, dq121, dq122]
def fn : List DefQ := fn0 ++ fn1 ++ fn2 ++ fn3 ++ fn4
def tf : List He.Defn := [("Browser", some "_add_entry"), ("Browser", some "_cut_first"), ("Browser", some "_merge_steps"), ("Browser", some "_throw_away")]
def qs : List Str := [lamQ "Browser._add_entry", lamQ "Browser._cut_first", lamQ "Browser._merge_steps", lamQ "Browser._throw_away"]
abbrev RR : PySem.W.OpenRow := PySem.W.OpenLaw.row PySem.Challenge.rw_framehistory_k09_promises
abbrev hk : PySem.W.Hook := hookM fa clsN fldN fn tf
def ob (s : PySem.W.SharedT) : AlM := obsM fa clsN fldN fn tf (HandSHeadRun.getT s)
theorem ob_eq (s : PySem.W.SharedT) : ob s = hk.obs s.abs := obsM_eq (HandSHeadRun.getT_eq s)
abbrev view1 : Program := PySem.W.view RR.prog [78]
set_option maxHeartbeats 0 in
theorem run (w : World) : HandSHeadRun.RunEq RR view1 hk ob 20000 names w := by
  intro os
  kernel_rfl
theorem fld_inj : ∀ i < 29, ∀ j < 29, fldN.getD i "" = fldN.getD j "" → i = j := by decide +kernel
def T0 (K : PySem.W.Frag) (P : Program) (w : World) (mg : Str → Option Value) (base : Heap) : Tb where
  P := P
  w := w
  K := K
  mg := mg
  base := base
  cls := fun i => He.ga K (clsN.getD i "")
  fld := fun i => fldN.getD i ""
  nf := 29
  nc := 5
  fns := fun _ => 0
  inj := fun i j hi hj e => fld_inj i hi j hj e
  act := 0
  capD := []
  capV := []
  actC := 0
  actQ := ""
  tabs := tabsOf tf qs K
section
variable {K : PySem.W.Frag} {P : Program} {w : World} {mg : Str → Option Value} {base h : Heap}
theorem na_lt : ∀ c f, naM c f = true → c < clsN.length ∧ f < fldN.length := fun c f e => by
  unfold naM at e
  obtain ⟨e1, e2⟩ := cond_true_both e
  exact ⟨blt_lt e1, blt_lt e2⟩
theorem gs (X : K.In h) (G : h.Ns mainGlobals mg) (s : SaysM fa clsN fldN fn tf h K) (hb : ∀ p ∈ tf, LamX.TabB base mg (He.cT K p).1 (He.cT K p).2) : Gs (T0 K P w mg base) :=
  have kt : KitOk (T0 K P w mg base) := kit_ok s rfl rfl rfl
  {
    n_all := free_of (T := T0 K P w mg base) s X G 0 rfl
    n_bool := free_of (T := T0 K P w mg base) s X G 1 rfl
    n_dict := free_of (T := T0 K P w mg base) s X G 2 rfl
    n_enumerate := free_of (T := T0 K P w mg base) s X G 3 rfl
    n_int := free_of (T := T0 K P w mg base) s X G 4 rfl
    n_isinstance := free_of (T := T0 K P w mg base) s X G 5 rfl
    n_len := free_of (T := T0 K P w mg base) s X G 6 rfl
    n_list := free_of (T := T0 K P w mg base) s X G 7 rfl
    n_max := free_of (T := T0 K P w mg base) s X G 8 rfl
    n_range := free_of (T := T0 K P w mg base) s X G 9 rfl
    n_set := free_of (T := T0 K P w mg base) s X G 10 rfl
    n_sorted := free_of (T := T0 K P w mg base) s X G 11 rfl
    n_str := free_of (T := T0 K P w mg base) s X G 12 rfl
    n_tuple := free_of (T := T0 K P w mg base) s X G 13 rfl
    n_zip := free_of (T := T0 K P w mg base) s X G 14 rfl
    c_Browser := glo_of (T := T0 K P w mg base) s X G rfl 15 rfl
    c_Site := glo_of (T := T0 K P w mg base) s X G rfl 16 rfl
    c_Renewal := glo_of (T := T0 K P w mg base) s X G rfl 17 rfl
    c_Record := glo_of (T := T0 K P w mg base) s X G rfl 18 rfl
    c_Machine := glo_of (T := T0 K P w mg base) s X G rfl 19 rfl
    g_ALL_CARES := con_of (T := T0 K P w mg base) s X G 20 rfl
    g_PLAIN_WORDS := con_of (T := T0 K P w mg base) s X G 21 rfl
    m___eq__ := (show ∀ f < 29, ¬ fldN.getD f "" = ("__eq__" : Str) by decide +kernel)
    m___getitem__ := (show ∀ f < 29, ¬ fldN.getD f "" = ("__getitem__" : Str) by decide +kernel)
    m___iter__ := (show ∀ f < 29, ¬ fldN.getD f "" = ("__iter__" : Str) by decide +kernel)
    m___len__ := (show ∀ f < 29, ¬ fldN.getD f "" = ("__len__" : Str) by decide +kernel)
    m__add_entry := (show ∀ f < 29, ¬ fldN.getD f "" = ("_add_entry" : Str) by decide +kernel)
    m__added_tree := (show ∀ f < 29, ¬ fldN.getD f "" = ("_added_tree" : Str) by decide +kernel)
    m__after_drop := (show ∀ f < 29, ¬ fldN.getD f "" = ("_after_drop" : Str) by decide +kernel)
    m__all_frames := (show ∀ f < 29, ¬ fldN.getD f "" = ("_all_frames" : Str) by decide +kernel)
    m__allows_word := (show ∀ f < 29, ¬ fldN.getD f "" = ("_allows_word" : Str) by decide +kernel)
    m__change_frames := (show ∀ f < 29, ¬ fldN.getD f "" = ("_change_frames" : Str) by decide +kernel)
    m__cut_first := (show ∀ f < 29, ¬ fldN.getD f "" = ("_cut_first" : Str) by decide +kernel)
    m__drop := (show ∀ f < 29, ¬ fldN.getD f "" = ("_drop" : Str) by decide +kernel)
    m__first_frame := (show ∀ f < 29, ¬ fldN.getD f "" = ("_first_frame" : Str) by decide +kernel)
    m__fits := (show ∀ f < 29, ¬ fldN.getD f "" = ("_fits" : Str) by decide +kernel)
    m__forget := (show ∀ f < 29, ¬ fldN.getD f "" = ("_forget" : Str) by decide +kernel)
    m__frame_at := (show ∀ f < 29, ¬ fldN.getD f "" = ("_frame_at" : Str) by decide +kernel)
    m__go := (show ∀ f < 29, ¬ fldN.getD f "" = ("_go" : Str) by decide +kernel)
    m__loaded_frames := (show ∀ f < 29, ¬ fldN.getD f "" = ("_loaded_frames" : Str) by decide +kernel)
    m__mark_used := (show ∀ f < 29, ¬ fldN.getD f "" = ("_mark_used" : Str) by decide +kernel)
    m__merge_steps := (show ∀ f < 29, ¬ fldN.getD f "" = ("_merge_steps" : Str) by decide +kernel)
    m__new_document := (show ∀ f < 29, ¬ fldN.getD f "" = ("_new_document" : Str) by decide +kernel)
    m__new_number := (show ∀ f < 29, ¬ fldN.getD f "" = ("_new_number" : Str) by decide +kernel)
    m__number_at := (show ∀ f < 29, ¬ fldN.getD f "" = ("_number_at" : Str) by decide +kernel)
    m__push := (show ∀ f < 29, ¬ fldN.getD f "" = ("_push" : Str) by decide +kernel)
    m__put_frame := (show ∀ f < 29, ¬ fldN.getD f "" = ("_put_frame" : Str) by decide +kernel)
    m__shown_numbers := (show ∀ f < 29, ¬ fldN.getD f "" = ("_shown_numbers" : Str) by decide +kernel)
    m__throw_away := (show ∀ f < 29, ¬ fldN.getD f "" = ("_throw_away" : Str) by decide +kernel)
    m__thrown_away := (show ∀ f < 29, ¬ fldN.getD f "" = ("_thrown_away" : Str) by decide +kernel)
    m__with_step := (show ∀ f < 29, ¬ fldN.getD f "" = ("_with_step" : Str) by decide +kernel)
    m_addresses := (show ∀ f < 29, ¬ fldN.getD f "" = ("addresses" : Str) by decide +kernel)
    m_after := (show ∀ f < 29, ¬ fldN.getD f "" = ("after" : Str) by decide +kernel)
    m_allows := (show ∀ f < 29, ¬ fldN.getD f "" = ("allows" : Str) by decide +kernel)
    m_can := (show ∀ f < 29, ¬ fldN.getD f "" = ("can" : Str) by decide +kernel)
    m_copy := (show ∀ f < 29, ¬ fldN.getD f "" = ("copy" : Str) by decide +kernel)
    m_counts := (show ∀ f < 29, ¬ fldN.getD f "" = ("counts" : Str) by decide +kernel)
    m_depth_of := (show ∀ f < 29, ¬ fldN.getD f "" = ("depth_of" : Str) by decide +kernel)
    m_do := (show ∀ f < 29, ¬ fldN.getD f "" = ("do" : Str) by decide +kernel)
    m_frame_names := (show ∀ f < 29, ¬ fldN.getD f "" = ("frame_names" : Str) by decide +kernel)
    m_frames_of := (show ∀ f < 29, ¬ fldN.getD f "" = ("frames_of" : Str) by decide +kernel)
    m_links_of := (show ∀ f < 29, ¬ fldN.getD f "" = ("links_of" : Str) by decide +kernel)
    m_load := (show ∀ f < 29, ¬ fldN.getD f "" = ("load" : Str) by decide +kernel)
    m_perform := (show ∀ f < 29, ¬ fldN.getD f "" = ("perform" : Str) by decide +kernel)
    m_possible := (show ∀ f < 29, ¬ fldN.getD f "" = ("possible" : Str) by decide +kernel)
    m_possible_deeds := (show ∀ f < 29, ¬ fldN.getD f "" = ("possible_deeds" : Str) by decide +kernel)
    m_renewed := (show ∀ f < 29, ¬ fldN.getD f "" = ("renewed" : Str) by decide +kernel)
    m_shown := (show ∀ f < 29, ¬ fldN.getD f "" = ("shown" : Str) by decide +kernel)
    m_step_counts := (show ∀ f < 29, ¬ fldN.getD f "" = ("step_counts" : Str) by decide +kernel)
    m_tree := (show ∀ f < 29, ¬ fldN.getD f "" = ("tree" : Str) by decide +kernel)
    m_view := (show ∀ f < 29, ¬ fldN.getD f "" = ("view" : Str) by decide +kernel)
    a_record := rfl
    a_browser := rfl
    a__site := rfl
    a__cares := rfl
    a_frame := rfl
    a_documents := rfl
    a__fresh := rfl
    a_now := rfl
    a_last := rfl
    a_first := rfl
    a_part := rfl
    a__frames := rfl
    a__links := rfl
    a__home := rfl
    a__cap := rfl
    a__pushes := rfl
    a__drops := rfl
    a__clears := rfl
    a__reopens := rfl
    a__depths := rfl
    a__names := rfl
    a__staying := rfl
    a__numbers := rfl
    a__added := rfl
    a_fresh := rfl
    a_trees := rfl
    a_current := rfl
    a__past := rfl
    a__failure := rfl
    fo := flds_ok s rfl rfl rfl rfl rfl na_lt
    kt := kt
    nc1 := show 5 ≤ 1000 by decide
    nc0 := rfl
    f0 := df_of (T := T0 K P w mg base) s X G 0 rfl rfl (fun _ _ _ _ _ _ us hl => match us, hl with | [_], _ => rfl) rfl
    f1 := df_of (T := T0 K P w mg base) s X G 1 rfl rfl (fun _ _ _ _ _ _ us hl => match us, hl with | [_, _], _ => rfl) rfl
    f2 := df_of (T := T0 K P w mg base) s X G 2 rfl rfl (fun _ _ _ _ _ _ us hl => match us, hl with | [_, _], _ => rfl) rfl
    f3 := df_of (T := T0 K P w mg base) s X G 3 rfl rfl (fun _ _ _ _ _ _ us hl => match us, hl with | [_, _, _], _ => rfl) rfl
    f4 := df_of (T := T0 K P w mg base) s X G 4 rfl rfl (fun _ _ _ _ _ _ us hl => match us, hl with | [_, _], _ => rfl) rfl
    f5 := df_of (T := T0 K P w mg base) s X G 5 rfl rfl (fun _ _ _ _ _ _ us hl => match us, hl with | [_, _], _ => rfl) rfl
    f6 := df_of (T := T0 K P w mg base) s X G 6 rfl rfl (fun _ _ _ _ _ _ us hl => match us, hl with | [_, _], _ => rfl) rfl
    f7 := df_of (T := T0 K P w mg base) s X G 7 rfl rfl (fun _ _ _ _ _ _ us hl => match us, hl with | [_, _], _ => rfl) rfl
    f8 := in_of (T := T0 K P w mg base) s X G rfl 8 15 22 rfl rfl rfl rfl (fun _ _ _ _ _ _ us hl => match us, hl with | [_, _, _, _, _, _], _ => rfl) rfl
    f9 := mt_of (T := T0 K P w mg base) s kt (show 0 < 5 by decide) rfl 9 rfl rfl (fun _ _ _ _ _ _ us hl => match us, hl with | [_, _], _ => rfl) rfl
    f10 := mt_of (T := T0 K P w mg base) s kt (show 0 < 5 by decide) rfl 10 rfl rfl (fun _ _ _ _ _ _ us hl => match us, hl with | [_, _], _ => rfl) rfl
    f11 := mt_of (T := T0 K P w mg base) s kt (show 0 < 5 by decide) rfl 11 rfl rfl (fun _ _ _ _ _ _ us hl => match us, hl with | [_], _ => rfl) rfl
    f12 := mt_of (T := T0 K P w mg base) s kt (show 0 < 5 by decide) rfl 12 rfl rfl (fun _ _ _ _ _ _ us hl => match us, hl with | [_, _], _ => rfl) rfl
    f13 := mt_of (T := T0 K P w mg base) s kt (show 0 < 5 by decide) rfl 13 rfl rfl (fun _ _ _ _ _ _ us hl => match us, hl with | [_, _], _ => rfl) rfl
    f14 := mt_of (T := T0 K P w mg base) s kt (show 0 < 5 by decide) rfl 14 rfl rfl (fun _ _ _ _ _ _ us hl => match us, hl with | [_, _, _], _ => rfl) rfl
    f15 := mt_of (T := T0 K P w mg base) s kt (show 0 < 5 by decide) rfl 15 rfl rfl (fun _ _ _ _ _ _ us hl => match us, hl with | [_, _], _ => rfl) rfl
    f16 := mt_of (T := T0 K P w mg base) s kt (show 0 < 5 by decide) rfl 16 rfl rfl (fun _ _ _ _ _ _ us hl => match us, hl with | [_, _], _ => rfl) rfl
    f17 := mt_of (T := T0 K P w mg base) s kt (show 0 < 5 by decide) rfl 17 rfl rfl (fun _ _ _ _ _ _ us hl => match us, hl with | [_, _, _], _ => rfl) rfl
    f18 := mt_of (T := T0 K P w mg base) s kt (show 0 < 5 by decide) rfl 18 rfl rfl (fun _ _ _ _ _ _ us hl => match us, hl with | [_, _], _ => rfl) rfl
    f19 := mt_of (T := T0 K P w mg base) s kt (show 0 < 5 by decide) rfl 19 rfl rfl (fun _ _ _ _ _ _ us hl => match us, hl with | [_, _, _, _], _ => rfl) rfl
    f20 := mt_of (T := T0 K P w mg base) s kt (show 0 < 5 by decide) rfl 20 rfl rfl (fun _ _ _ _ _ _ us hl => match us, hl with | [_], _ => rfl) rfl
    f21 := mt_of (T := T0 K P w mg base) s kt (show 0 < 5 by decide) rfl 21 rfl rfl (fun _ _ _ _ _ _ us hl => match us, hl with | [_, _], _ => rfl) rfl
    f22 := mt_of (T := T0 K P w mg base) s kt (show 0 < 5 by decide) rfl 22 rfl rfl (fun _ _ _ _ _ _ us hl => match us, hl with | [_], _ => rfl) rfl
    f23 := mt_of (T := T0 K P w mg base) s kt (show 0 < 5 by decide) rfl 23 rfl rfl (fun _ _ _ _ _ _ us hl => match us, hl with | [_, _], _ => rfl) rfl
    f24 := mt_of (T := T0 K P w mg base) s kt (show 0 < 5 by decide) rfl 24 rfl rfl (fun _ _ _ _ _ _ us hl => match us, hl with | [_, _], _ => rfl) rfl
    f25 := mt_of (T := T0 K P w mg base) s kt (show 0 < 5 by decide) rfl 25 rfl rfl (fun _ _ _ _ _ _ us hl => match us, hl with | [_], _ => rfl) rfl
    f26 := mt_of (T := T0 K P w mg base) s kt (show 0 < 5 by decide) rfl 26 rfl rfl (fun _ _ _ _ _ _ us hl => match us, hl with | [_], _ => rfl) rfl
    f27 := mt_of (T := T0 K P w mg base) s kt (show 0 < 5 by decide) rfl 27 rfl rfl (fun _ _ _ _ _ _ us hl => match us, hl with | [_, _, _], _ => rfl) rfl
    f28 := mt_of (T := T0 K P w mg base) s kt (show 0 < 5 by decide) rfl 28 rfl rfl (fun _ _ _ _ _ _ us hl => match us, hl with | [_, _], _ => rfl) rfl
    f29 := mt_of (T := T0 K P w mg base) s kt (show 0 < 5 by decide) rfl 29 rfl rfl (fun _ _ _ _ _ _ us hl => match us, hl with | [_, _], _ => rfl) rfl
    f30 := mt_of (T := T0 K P w mg base) s kt (show 0 < 5 by decide) rfl 30 rfl rfl (fun _ _ _ _ _ _ us hl => match us, hl with | [_, _], _ => rfl) rfl
    f31 := mt_of (T := T0 K P w mg base) s kt (show 0 < 5 by decide) rfl 31 rfl rfl (fun _ _ _ _ _ _ us hl => match us, hl with | [_, _, _], _ => rfl) rfl
    f32 := inQ_of (T := T0 K P w mg base) s X G rfl 32 16 23 rfl rfl rfl rfl
    f33 := pr_of (T := T0 K P w mg base) s kt (show 1 < 5 by decide) rfl 33 rfl rfl (fun _ _ _ _ _ _ us hl => match us, hl with | [_], _ => rfl) rfl
    f34 := pr_of (T := T0 K P w mg base) s kt (show 1 < 5 by decide) rfl 34 rfl rfl (fun _ _ _ _ _ _ us hl => match us, hl with | [_], _ => rfl) rfl
    f35 := pr_of (T := T0 K P w mg base) s kt (show 1 < 5 by decide) rfl 35 rfl rfl (fun _ _ _ _ _ _ us hl => match us, hl with | [_], _ => rfl) rfl
    f36 := pr_of (T := T0 K P w mg base) s kt (show 1 < 5 by decide) rfl 36 rfl rfl (fun _ _ _ _ _ _ us hl => match us, hl with | [_], _ => rfl) rfl
    f37 := pr_of (T := T0 K P w mg base) s kt (show 1 < 5 by decide) rfl 37 rfl rfl (fun _ _ _ _ _ _ us hl => match us, hl with | [_], _ => rfl) rfl
    f38 := pr_of (T := T0 K P w mg base) s kt (show 1 < 5 by decide) rfl 38 rfl rfl (fun _ _ _ _ _ _ us hl => match us, hl with | [_], _ => rfl) rfl
    f39 := pr_of (T := T0 K P w mg base) s kt (show 1 < 5 by decide) rfl 39 rfl rfl (fun _ _ _ _ _ _ us hl => match us, hl with | [_], _ => rfl) rfl
    f40 := pr_of (T := T0 K P w mg base) s kt (show 1 < 5 by decide) rfl 40 rfl rfl (fun _ _ _ _ _ _ us hl => match us, hl with | [_], _ => rfl) rfl
    f41 := mt_of (T := T0 K P w mg base) s kt (show 1 < 5 by decide) rfl 41 rfl rfl (fun _ _ _ _ _ _ us hl => match us, hl with | [_, _], _ => rfl) rfl
    f42 := mt_of (T := T0 K P w mg base) s kt (show 1 < 5 by decide) rfl 42 rfl rfl (fun _ _ _ _ _ _ us hl => match us, hl with | [_], _ => rfl) rfl
    f43 := mt_of (T := T0 K P w mg base) s kt (show 1 < 5 by decide) rfl 43 rfl rfl (fun _ _ _ _ _ _ us hl => match us, hl with | [_], _ => rfl) rfl
    f44 := mt_of (T := T0 K P w mg base) s kt (show 1 < 5 by decide) rfl 44 rfl rfl (fun _ _ _ _ _ _ us hl => match us, hl with | [_, _], _ => rfl) rfl
    f45 := mt_of (T := T0 K P w mg base) s kt (show 1 < 5 by decide) rfl 45 rfl rfl (fun _ _ _ _ _ _ us hl => match us, hl with | [_, _], _ => rfl) rfl
    f46 := mt_of (T := T0 K P w mg base) s kt (show 1 < 5 by decide) rfl 46 rfl rfl (fun _ _ _ _ _ _ us hl => match us, hl with | [_, _], _ => rfl) rfl
    f47 := df_of (T := T0 K P w mg base) s X G 47 rfl rfl (fun _ _ _ _ _ _ us hl => match us, hl with | [_, _], _ => rfl) rfl
    f48 := df_of (T := T0 K P w mg base) s X G 48 rfl rfl (fun _ _ _ _ _ _ us hl => match us, hl with | [_], _ => rfl) rfl
    f49 := df_of (T := T0 K P w mg base) s X G 49 rfl rfl (fun _ _ _ _ _ _ us hl => match us, hl with | [_, _], _ => rfl) rfl
    f50 := df_of (T := T0 K P w mg base) s X G 50 rfl rfl (fun _ _ _ _ _ _ us hl => match us, hl with | [_], _ => rfl) rfl
    f51 := df_of (T := T0 K P w mg base) s X G 51 rfl rfl (fun _ _ _ _ _ _ us hl => match us, hl with | [_, _], _ => rfl) rfl
    f52 := df_of (T := T0 K P w mg base) s X G 52 rfl rfl (fun _ _ _ _ _ _ us hl => match us, hl with | [_, _], _ => rfl) rfl
    f53 := df_of (T := T0 K P w mg base) s X G 53 rfl rfl (fun _ _ _ _ _ _ us hl => match us, hl with | [_], _ => rfl) rfl
    f54 := df_of (T := T0 K P w mg base) s X G 54 rfl rfl (fun _ _ _ _ _ _ us hl => match us, hl with | [_, _], _ => rfl) rfl
    f55 := df_of (T := T0 K P w mg base) s X G 55 rfl rfl (fun _ _ _ _ _ _ us hl => match us, hl with | [_, _], _ => rfl) rfl
    f56 := df_of (T := T0 K P w mg base) s X G 56 rfl rfl (fun _ _ _ _ _ _ us hl => match us, hl with | [_], _ => rfl) rfl
    f57 := df_of (T := T0 K P w mg base) s X G 57 rfl rfl (fun _ _ _ _ _ _ us hl => match us, hl with | [_], _ => rfl) rfl
    f58 := df_of (T := T0 K P w mg base) s X G 58 rfl rfl (fun _ _ _ _ _ _ us hl => match us, hl with | [_, _], _ => rfl) rfl
    f59 := df_of (T := T0 K P w mg base) s X G 59 rfl rfl (fun _ _ _ _ _ _ us hl => match us, hl with | [_], _ => rfl) rfl
    f60 := df_of (T := T0 K P w mg base) s X G 60 rfl rfl (fun _ _ _ _ _ _ us hl => match us, hl with | [_], _ => rfl) rfl
    f61 := df_of (T := T0 K P w mg base) s X G 61 rfl rfl (fun _ _ _ _ _ _ us hl => match us, hl with | [_, _], _ => rfl) rfl
    f62 := df_of (T := T0 K P w mg base) s X G 62 rfl rfl (fun _ _ _ _ _ _ us hl => match us, hl with | [_, _], _ => rfl) rfl
    f63 := df_of (T := T0 K P w mg base) s X G 63 rfl rfl (fun _ _ _ _ _ _ us hl => match us, hl with | [_], _ => rfl) rfl
    f64 := df_of (T := T0 K P w mg base) s X G 64 rfl rfl (fun _ _ _ _ _ _ us hl => match us, hl with | [_, _, _], _ => rfl) rfl
    f65 := df_of (T := T0 K P w mg base) s X G 65 rfl rfl (fun _ _ _ _ _ _ us hl => match us, hl with | [_, _], _ => rfl) rfl
    f66 := df_of (T := T0 K P w mg base) s X G 66 rfl rfl (fun _ _ _ _ _ _ us hl => match us, hl with | [_, _, _], _ => rfl) rfl
    f67 := df_of (T := T0 K P w mg base) s X G 67 rfl rfl (fun _ _ _ _ _ _ us hl => match us, hl with | [_, _, _], _ => rfl) rfl
    f68 := df_of (T := T0 K P w mg base) s X G 68 rfl rfl (fun _ _ _ _ _ _ us hl => match us, hl with | [_], _ => rfl) rfl
    f69 := df_of (T := T0 K P w mg base) s X G 69 rfl rfl (fun _ _ _ _ _ _ us hl => match us, hl with | [_], _ => rfl) rfl
    f70 := df_of (T := T0 K P w mg base) s X G 70 rfl rfl (fun _ _ _ _ _ _ us hl => match us, hl with | [_, _], _ => rfl) rfl
    f71 := in_of (T := T0 K P w mg base) s X G rfl 71 17 24 rfl rfl rfl rfl (fun _ _ _ _ _ _ us hl => match us, hl with | [_, _, _, _], _ => rfl) rfl
    f72 := mt_of (T := T0 K P w mg base) s kt (show 2 < 5 by decide) rfl 72 rfl rfl (fun _ _ _ _ _ _ us hl => match us, hl with | [_, _], _ => rfl) rfl
    f73 := mt_of (T := T0 K P w mg base) s kt (show 2 < 5 by decide) rfl 73 rfl rfl (fun _ _ _ _ _ _ us hl => match us, hl with | [_, _], _ => rfl) rfl
    f74 := mt_of (T := T0 K P w mg base) s kt (show 2 < 5 by decide) rfl 74 rfl rfl (fun _ _ _ _ _ _ us hl => match us, hl with | [_, _, _, _], _ => rfl) rfl
    f75 := mt_of (T := T0 K P w mg base) s kt (show 2 < 5 by decide) rfl 75 rfl rfl (fun _ _ _ _ _ _ us hl => match us, hl with | [_, _, _, _], _ => rfl) rfl
    f76 := df_of (T := T0 K P w mg base) s X G 76 rfl rfl (fun _ _ _ _ _ _ us hl => match us, hl with | [_], _ => rfl) rfl
    f77 := in_of (T := T0 K P w mg base) s X G rfl 77 18 25 rfl rfl rfl rfl (fun _ _ _ _ _ _ us hl => match us, hl with | [_, _, _, _, _], _ => rfl) rfl
    f78 := mt_of (T := T0 K P w mg base) s kt (show 3 < 5 by decide) rfl 78 rfl rfl (fun _ _ _ _ _ _ us hl => match us, hl with | [_], _ => rfl) rfl
    f79 := mt_of (T := T0 K P w mg base) s kt (show 3 < 5 by decide) rfl 79 rfl rfl (fun _ _ _ _ _ _ us hl => match us, hl with | [_], _ => rfl) rfl
    f80 := mt_of (T := T0 K P w mg base) s kt (show 3 < 5 by decide) rfl 80 rfl rfl (fun _ _ _ _ _ _ us hl => match us, hl with | [_, _], _ => rfl) rfl
    f81 := mt_of (T := T0 K P w mg base) s kt (show 3 < 5 by decide) rfl 81 rfl rfl (fun _ _ _ _ _ _ us hl => match us, hl with | [_, _], _ => rfl) rfl
    f82 := mt_of (T := T0 K P w mg base) s kt (show 3 < 5 by decide) rfl 82 rfl rfl (fun _ _ _ _ _ _ us hl => match us, hl with | [_, _, _], _ => rfl) rfl
    f83 := mt_of (T := T0 K P w mg base) s kt (show 3 < 5 by decide) rfl 83 rfl rfl (fun _ _ _ _ _ _ us hl => match us, hl with | [_, _], _ => rfl) rfl
    f84 := mt_of (T := T0 K P w mg base) s kt (show 3 < 5 by decide) rfl 84 rfl rfl (fun _ _ _ _ _ _ us hl => match us, hl with | [_, _, _, _], _ => rfl) rfl
    f85 := mt_of (T := T0 K P w mg base) s kt (show 3 < 5 by decide) rfl 85 rfl rfl (fun _ _ _ _ _ _ us hl => match us, hl with | [_, _], _ => rfl) rfl
    f86 := mt_of (T := T0 K P w mg base) s kt (show 3 < 5 by decide) rfl 86 rfl rfl (fun _ _ _ _ _ _ us hl => match us, hl with | [_, _], _ => rfl) rfl
    f87 := df_of (T := T0 K P w mg base) s X G 87 rfl rfl (fun _ _ _ _ _ _ us hl => match us, hl with | [_], _ => rfl) rfl
    f88 := df_of (T := T0 K P w mg base) s X G 88 rfl rfl (fun _ _ _ _ _ _ us hl => match us, hl with | [_, _], _ => rfl) rfl
    f89 := inQ_of (T := T0 K P w mg base) s X G rfl 89 19 26 rfl rfl rfl rfl
    f90 := pr_of (T := T0 K P w mg base) s kt (show 4 < 5 by decide) rfl 90 rfl rfl (fun _ _ _ _ _ _ us hl => match us, hl with | [_], _ => rfl) rfl
    f91 := pr_of (T := T0 K P w mg base) s kt (show 4 < 5 by decide) rfl 91 rfl rfl (fun _ _ _ _ _ _ us hl => match us, hl with | [_], _ => rfl) rfl
    f92 := pr_of (T := T0 K P w mg base) s kt (show 4 < 5 by decide) rfl 92 rfl rfl (fun _ _ _ _ _ _ us hl => match us, hl with | [_], _ => rfl) rfl
    f93 := pr_of (T := T0 K P w mg base) s kt (show 4 < 5 by decide) rfl 93 rfl rfl (fun _ _ _ _ _ _ us hl => match us, hl with | [_], _ => rfl) rfl
    f94 := pr_of (T := T0 K P w mg base) s kt (show 4 < 5 by decide) rfl 94 rfl rfl (fun _ _ _ _ _ _ us hl => match us, hl with | [_], _ => rfl) rfl
    f95 := mt_of (T := T0 K P w mg base) s kt (show 4 < 5 by decide) rfl 95 rfl rfl (fun _ _ _ _ _ _ us hl => match us, hl with | [_], _ => rfl) rfl
    f96 := mt_of (T := T0 K P w mg base) s kt (show 4 < 5 by decide) rfl 96 rfl rfl (fun _ _ _ _ _ _ us hl => match us, hl with | [_, _], _ => rfl) rfl
    f97 := mt_of (T := T0 K P w mg base) s kt (show 4 < 5 by decide) rfl 97 rfl rfl (fun _ _ _ _ _ _ us hl => match us, hl with | [_], _ => rfl) rfl
    f98 := mt_of (T := T0 K P w mg base) s kt (show 4 < 5 by decide) rfl 98 rfl rfl (fun _ _ _ _ _ _ us hl => match us, hl with | [_, _], _ => rfl) rfl
    f99 := mt_of (T := T0 K P w mg base) s kt (show 4 < 5 by decide) rfl 99 rfl rfl (fun _ _ _ _ _ _ us hl => match us, hl with | [_, _], _ => rfl) rfl
    f100 := mt_of (T := T0 K P w mg base) s kt (show 4 < 5 by decide) rfl 100 rfl rfl (fun _ _ _ _ _ _ us hl => match us, hl with | [_], _ => rfl) rfl
    f101 := mt_of (T := T0 K P w mg base) s kt (show 4 < 5 by decide) rfl 101 rfl rfl (fun _ _ _ _ _ _ us hl => match us, hl with | [_], _ => rfl) rfl
    f102 := mt_of (T := T0 K P w mg base) s kt (show 4 < 5 by decide) rfl 102 rfl rfl (fun _ _ _ _ _ _ us hl => match us, hl with | [_], _ => rfl) rfl
    f103 := mt_of (T := T0 K P w mg base) s kt (show 4 < 5 by decide) rfl 103 rfl rfl (fun _ _ _ _ _ _ us hl => match us, hl with | [_], _ => rfl) rfl
    f104 := df_of (T := T0 K P w mg base) s X G 104 rfl rfl (fun _ _ _ _ _ _ us hl => match us, hl with | [_, _], _ => rfl) rfl
    f105 := df_of (T := T0 K P w mg base) s X G 105 rfl rfl (fun _ _ _ _ _ _ us hl => match us, hl with | [_, _, _], _ => rfl) rfl
    f106 := df_of (T := T0 K P w mg base) s X G 106 rfl rfl (fun _ _ _ _ _ _ us hl => match us, hl with | [_], _ => rfl) rfl
    f107 := df_of (T := T0 K P w mg base) s X G 107 rfl rfl (fun _ _ _ _ _ _ us hl => match us, hl with | [_, _], _ => rfl) rfl
    f108 := df_of (T := T0 K P w mg base) s X G 108 rfl rfl (fun _ _ _ _ _ _ us hl => match us, hl with | [_, _], _ => rfl) rfl
    f109 := df_of (T := T0 K P w mg base) s X G 109 rfl rfl (fun _ _ _ _ _ _ us hl => match us, hl with | [_], _ => rfl) rfl
    f110 := df_of (T := T0 K P w mg base) s X G 110 rfl rfl (fun _ _ _ _ _ _ us hl => match us, hl with | [_, _, _], _ => rfl) rfl
    f111 := df_of (T := T0 K P w mg base) s X G 111 rfl rfl (fun _ _ _ _ _ _ us hl => match us, hl with | [_], _ => rfl) rfl
    f112 := df_of (T := T0 K P w mg base) s X G 112 rfl rfl (fun _ _ _ _ _ _ us hl => match us, hl with | [_, _], _ => rfl) rfl
    f113 := df_of (T := T0 K P w mg base) s X G 113 rfl rfl (fun _ _ _ _ _ _ us hl => match us, hl with | [_, _, _], _ => rfl) rfl
    f114 := df_of (T := T0 K P w mg base) s X G 114 rfl rfl (fun _ _ _ _ _ _ us hl => match us, hl with | [_, _, _], _ => rfl) rfl
    f115 := df_of (T := T0 K P w mg base) s X G 115 rfl rfl (fun _ _ _ _ _ _ us hl => match us, hl with | [_, _], _ => rfl) rfl
    f116 := df_of (T := T0 K P w mg base) s X G 116 rfl rfl (fun _ _ _ _ _ _ us hl => match us, hl with | [_, _], _ => rfl) rfl
    f117 := df_of (T := T0 K P w mg base) s X G 117 rfl rfl (fun _ _ _ _ _ _ us hl => match us, hl with | [_], _ => rfl) rfl
    f118 := df_of (T := T0 K P w mg base) s X G 118 rfl rfl (fun _ _ _ _ _ _ us hl => match us, hl with | [_, _, _], _ => rfl) rfl
    f119 := df_of (T := T0 K P w mg base) s X G 119 rfl rfl (fun _ _ _ _ _ _ us hl => match us, hl with | [], _ => rfl) rfl
    f120 := df_of (T := T0 K P w mg base) s X G 120 rfl rfl (fun _ _ _ _ _ _ us hl => match us, hl with | [], _ => rfl) rfl
    f121 := df_of (T := T0 K P w mg base) s X G 121 rfl rfl (fun _ _ _ _ _ _ us hl => match us, hl with | [], _ => rfl) rfl
    f122 := df_of (T := T0 K P w mg base) s X G 122 rfl rfl (fun _ _ _ _ _ _ us hl => match us, hl with | [_], _ => rfl) rfl
    tb19 := tabm_of (T := T0 K P w mg base) s rfl rfl hb 0 19 rfl rfl rfl rfl
    tb20 := tabm_of (T := T0 K P w mg base) s rfl rfl hb 1 20 rfl rfl rfl rfl
    tb22 := tabm_of (T := T0 K P w mg base) s rfl rfl hb 2 22 rfl rfl rfl rfl
    tb23 := tabm_of (T := T0 K P w mg base) s rfl rfl hb 3 23 rfl rfl rfl rfl
  }
abbrev lawM : MF := mDef 1 0 (b122 (prog 24))
def isTrueR : R DV → Bool
  | .ok (.bl true) _ => true
  | _ => false
set_option maxHeartbeats 0 in
theorem ran : isTrueR (lawM [.opq] ⟨.nil, 0⟩) = true := by decide +kernel
theorem law_at {fa0 : Addr} (X : K.In h) (G : h.Ns mainGlobals mg) (s : SaysM fa clsN fldN fn tf h K) (hmg : mg ("law" : Str) = some (.ref fa0)) : LamX.LawAtS PySem.Challenge.rw_framehistory_k09_promises w K CX0 150 63 "_law_script" mg fa0 h := by
  obtain ⟨ok, fd, kws, F⟩ := s.def_ 122 (d := dq122) rfl
  have e := He.glo_ok X G (show (He.Fa.glo "law").ok K = true from ok)
  rw [hmg] at e
  have hf : fa0 = dq122.ad.at K := by cases e; rfl
  have hcs : ∀ p ∈ tf.map (He.cT K), ∃ r ∈ tf, He.cT K r = p := fun p hp => List.mem_map.mp hp
  refine ⟨fd, tf.map (He.cT K), spM (T0 K PySem.Challenge.rw_framehistory_k09_promises.prog w mg h) 1 lawM, fun p hp => ?_, fun p hp => ?_, fun p hp => ?_, fun s v => ?_, fun H a ns _ _ ht _ => ?_, fun base hK hN hB => ?_⟩
  · obtain ⟨r, hr, rfl⟩ := hcs p hp
    exact s.empty r hr
  · obtain ⟨r, hr, rfl⟩ := hcs p hp
    exact s.out r hr
  · obtain ⟨r, hr, rfl⟩ := hcs p hp
    exact PySem.W.codeHd_of_K X (s.hd r hr)
  · exact FunD.bindsA (ps := ["_law_script"]) F.fn (fun _ _ _ _ _ _ us hl => match us, hl with | [_], _ => rfl) s [v] rfl
  · refine ⟨rfl, [], ⟨.nil, 0⟩, [.opq], ⟨rfl, Nat.zero_le _, .nil, fun l a e => by simp at e, fun p hp => ?_⟩, ⟨_, [], rfl, trivial, rfl⟩, ?_⟩
    · obtain ⟨l, hl⟩ := List.mem_iff_getElem?.mp (show p ∈ tabsOf tf qs K from hp)
      obtain ⟨r, hr, e1⟩ := tabs_mem hl
      rw [e1]
      exact LamX.TabS.nil (ht _ (List.mem_map.mpr ⟨r, hr, rfl⟩))
    · have z := ran
      revert z
      generalize lawM [.opq] ⟨.nil, 0⟩ = r
      intro z
      match r, z with
      | .ok (.bl true) D, _ => exact fun ρ' H' v _ _ hv => hv
  · subst hf
    have g := gs (P := PySem.Challenge.rw_framehistory_k09_promises.prog) (w := w) (base := base) X G s fun p hp => hB _ (List.mem_map.mpr ⟨p, hp, rfl⟩)
    exact (law_fn g (lv 24 _ g) (T := T0 K PySem.Challenge.rw_framehistory_k09_promises.prog w mg base) F.fun_).imp fun vs H Q E z => spM_reb (T := T0 K PySem.Challenge.rw_framehistory_k09_promises.prog w mg h) (b := base) (a := 0) (cd := []) (cv := []) (ac := 0) (aq := "") z
end
end FHP
open PySem PySem.W PySem.Calls PyProof.Rows
set_option maxHeartbeats 0 in
theorem PySem.Challenge.cw_framehistory_k09_promises_holds : PySem.Challenge.rw_framehistory_k09_promises.Holds := by
  w_on; o_law
  refine HandSHeadRun.head_any (r := FHP.RR) (q := FHP.view1) (H := FHP.hk) (ob := FHP.ob) (M := 20000) (loose := FHP.names) (d := HandSHeadRun.topDef FHP.RR.prog 78) (kwd := []) FHP.ob_eq
    (by kernel_rfl) (fun s => by kernel_rfl) FHP.run (by kernel_rfl) (by kernel_rfl) (by kernel_rfl) (by rfl) (by first | assumption | decide +kernel) (by decide +kernel) ⟨rfl, rfl, rfl, rfl, rfl, by decide +kernel⟩ ?hw ?hc
  case hw => w_witness2
  case hc =>
    refine LamX.walk_ofTsE (l := PySem.Challenge.rw_framehistory_k09_promises) (n := 63) (k := 150) (x := "_law_script") (CX := fun _ => L2.CX0) rfl (by decide) (by kernel_rfl) ⟨rfl, by decide, by decide⟩ ?F (fun _ _ _ _ _ z => z)
    intro w mg fa h Y G hmg0
    obtain ⟨K, KX, c⟩ := Y
    have hmg : mg ("law" : PySem.Str) = some (.ref fa) := by
      have e : (HandSHeadRun.topDef FHP.RR.prog 78).name = ("law" : PySem.Str) := by kernel_rfl
      rw [← e]
      exact hmg0
    exact ⟨K, KX, FHP.law_at KX G c hmg⟩
